import PyProof.Rows.All
import Wide.All
import OpenK.AllK
import Wide.FinOn
import HandS.ForMost
import HandS.Exc
import HandS.Walk
import HandS.Comp
import HandS.Style
import HandS.Deep
import HandS.DictComp
import HandS.SetKeys
import HandS.TupLen
import HandS.TupAny
import HandS.IsInst
import HandS.Sort
import HandS.SortRule
import HandS.DictTup
import HandS.Conv
import HandS.WideBits
import KE.GoesEnum
import KE.GoesZip
import KE.GoesMore
import HandS.SetFor
import HandS.SortKw
import HandS.ExcValue
import KE.KExcIs
import HandS.ExcInit
import PyProof.DictMoreH
import KE.KDictKeyed
import HandS.Wide
import HandS.TupLe
import HandS.RevTup
import HandS.Text
import HandS.More
import HandS.Iter
import HandS.OwnEq
import HandS.WordsExc
import HandS.Steps
import HandS.NoneIn
import HandS.Rev
import HandS.TryMany
import HandS.HeadWalk
import HandS.Words
import PyProof.ReprRoads
import HandS.HeadHook4
import HandS.HeadEnd
import HandS.Head2
import HandS.HeadHook3
import HandS.NestedK
import PySem.Challenge.RW_strangerspost_k08_whole_trees_judged
section
set_option Elab.async false
set_option linter.all false
set_option maxRecDepth 100000
set_option maxHeartbeats 4000000
/-! Own exceptions as values: made by an __init__ that is walked as a def, asked by isinstance, their fields read. -/
namespace L2.My
open PySem PySem.Spec PyProof.Rows

/-- the facts of an own exception class, beside OexC -/
structure XC (K : PySem.W.Frag) (C : Addr) : Prop where
  o : OexC K C
  hga : PySem.W.findIn K (.ref C) "__getattribute__" = some (some (.builtin "BaseException.__getattribute__"))
  hgt : PySem.W.findIn K (.ref C) "__getattr__" = some none
  ha : PySem.W.findIn K (.ref C) "__class__" = some (some (.builtin "object.__class__"))
  hn : PySem.W.specialIn K (.builtin "object.__class__") "__get__" = some (some (.builtin "getset_descriptor.__get__"))
  ht : PySem.W.takesIn K (.builtin "object.__class__") = some true
  hm : PySem.W.mroIn K C (.type "object") = some true
  hd : PySem.W.hasDictIn K C = true

/-- C(e, ..): a new exception object, then __init__; it stays tracked -/
def tMkX (C : Addr) (sp : Sp) (dvs : List V) (ta : TA) : TE := fun σ H Q => ta σ H fun vs H1 => vs.length ≤ 1000 ∧ ∀ a, H1 a = none → sp (.ref a :: (vs ++ dvs)) (upd H1 a (exo a C none))
  (fun v H2 => v = .non ∧ Q (.ref a) H2) (fun _ _ _ => False)
section
variable {X : Cx} {CX : CXT} {k : Nat} {fI C : Addr} {fd : FuncData} {ps : List Str} {sp : Sp} {dvs : List V} {ds : List Value} {x : Str} {p pos : Pos} {e : Expr} {es : List Expr} {ta : TA}
theorem run_mkx {pins : List (Addr × Obj)} {σ : St} {H : Hp} {s : Shared} {Q : VK} {us : List Value} {vs : List V} (T : OexC X.K C) (iC : PySem.W.findIn X.K (.ref C) "__init__" = some (some (.ref fI))) (tI : PySem.W.typeIn X.K (.ref fI) = some (.type "function"))
    (F1 : FnOk X.prog X.w X.K X.mg X.base CX k fI fd ps sp) (hr : Room (k + 1) X.A) (hb : Binds X.K fd ps ds) (hd : Vals dvs ds) (hx : Passes CX X (fun _ _ _ => False)) (I : Inv X pins σ H s) (r1 : Vals vs us) (hz : vs.length ≤ 1000)
    (h : ∀ a, H a = none → sp (.ref a :: (vs ++ dvs)) (upd H a (exo a C none)) (fun v H2 => v = .non ∧ Q (.ref a) H2) (fun _ _ _ => False)) :
    wpAny (model X.prog X.w) X.A (call (.ref C) us) (EP X pins σ Q) X.xe s := by
  obtain ⟨nm, q, N, bs, bm, sn, sub, ab, col, dd, k0, k1, k2, k3, k5, hC, hbm⟩ := T.cls
  obtain ⟨hp, g, dr, tk, os⟩ := s
  have hsz : hp.objs.size ≤ hp.objs.size + 1 := Nat.le_succ _
  have hn : H (hp.objs.size + 1) = none := I.hok.fresh hsz
  have hq := h (hp.objs.size + 1) hn
  have kk : ∀ b o, hp.get? b = some o → ((hp.push (PySem.W.kdv_tup us)).push (PySem.HandSPX.excO C hp.objs.size)).get? b = some o := fun b o e => Heap.get?_push_of_some _ (Heap.get?_push_of_some _ e)
  have hget : ((hp.push (PySem.W.kdv_tup us)).push (PySem.HandSPX.excO C hp.objs.size)).get? (hp.objs.size + 1) = some (PySem.HandSPX.excO C hp.objs.size) := by heap_get
  have I2 : Inv X pins σ (upd H (hp.objs.size + 1) (exo (hp.objs.size + 1) C none)) ⟨(hp.push (PySem.W.kdv_tup us)).push (PySem.HandSPX.excO C hp.objs.size), g, dr, tk, os⟩ :=
    I.laid (t' := tk) (a := hp.objs.size + 1) (o := exo (hp.objs.size + 1) C none) (h' := (hp.push (PySem.W.kdv_tup us)).push (PySem.HandSPX.excO C hp.objs.size)) kk hsz (exo_ok hget)
  have r2 : Vals (V.ref (hp.objs.size + 1) :: (vs ++ dvs)) (Value.ref (hp.objs.size + 1) :: (us ++ ds)) := .cons rfl (r1.append hd)
  have hl : (Value.ref (hp.objs.size + 1) :: us ++ ds).length = ps.length := by
    have e := r2.length
    rw [F1.len _ _ _ _ hq] at e
    exact e.symm
  have hus : us.length ≤ sizeLine := by
    rw [← Paired.length r1, sizeLine_eq]
    omega
  refine wpAny_call (PySem.HandSPX.call_own F.excBase_ValueError (fun Y => PySem.HandSPX.refsVE_contains Y bm hbm) (I.kIn _ _ hC) (PySem.W.looks_findIn I.kIn iC) (fun self => PySem.W.bind_fn I.kIn self tI) hus
    (codeAny_mono (F1.run _ X.stack _ _ ⟨Value.ref (hp.objs.size + 1) :: us, []⟩ (Value.ref (hp.objs.size + 1) :: (us ++ ds)) _ _ (fun _ _ _ => False) (hr.make C us []) (I2.env0.make C us []) (hb _ (Value.ref (hp.objs.size + 1) :: us) I2.kIn hl) r2 hq) fun r s' hq' => ?_))
  cases r with
  | error er => exact hx pins σ _ _ er s' I2 hq'
  | ok fl =>
    cases fl with
    | ret u =>
      obtain ⟨v, H', I3, rv, ev, q3⟩ := I2.after hq'
      subst ev
      exact ⟨rv, ⟨V.ref (hp.objs.size + 1), H', I3, rfl, q3⟩⟩
    | next => exact False.elim hq'
    | brk => exact False.elim hq'
    | cont => exact False.elim hq'
theorem pe_mkx (T : OexC X.K C) (iC : PySem.W.findIn X.K (.ref C) "__init__" = some (some (.ref fI))) (tI : PySem.W.typeIn X.K (.ref fI) = some (.type "function"))
    (F1 : FnOk X.prog X.w X.K X.mg X.base CX k fI fd ps sp) (hr : Room (k + 1) X.A) (hb : Binds X.K fd ps ds) (hd : Vals dvs ds) (hx : Passes CX X (fun _ _ _ => False)) (hg : Gl X x) (hm : X.mg x = some (.ref C)) (ha : PA X (e :: es) ta)
    (hdb : (x == ("__debug__" : Str)) = false := by decide) (he : starEach (e :: es) X.env = (false, eval e X.env) :: starEach es X.env := by rfl) (hpl : (backTo pos (starEach es X.env)).any (·.1) = false := by rfl) :
    PE X (.Call (.Name x p) (e :: es) [] pos) (tMkX C sp dvs ta) := by
  refine ⟨fun pins s σ H Q I h => ?_⟩
  refine wpAny_Call_Name_kw (ld_glob I hg hm ?_ hdb)
  refine PySem.W.callWith_K (h₀ := X.base) I.ok.mod.kin T.kC (thn (ha.run pos pins s σ H _ I h) fun us s1 ⟨vs, H1, I1, r1, hz, q1⟩ => ⟨I1.kIn, ?_⟩) he hpl
  exact run_mkx T iC tI F1 hr hb hd hx I1 r1 hz q1
theorem pe_mkx0 (T : OexC X.K C) (iC : PySem.W.findIn X.K (.ref C) "__init__" = some (some (.ref fI))) (tI : PySem.W.typeIn X.K (.ref fI) = some (.type "function"))
    (F1 : FnOk X.prog X.w X.K X.mg X.base CX k fI fd ps sp) (hr : Room (k + 1) X.A) (hb : Binds X.K fd ps ds) (hd : Vals dvs ds) (hx : Passes CX X (fun _ _ _ => False)) (hg : Gl X x) (hm : X.mg x = some (.ref C))
    (hdb : (x == ("__debug__" : Str)) = false := by decide) :
    PE X (.Call (.Name x p) [] [] pos) (tMkX C sp dvs tNil) := by
  refine ⟨fun pins s σ H Q I h => ?_⟩
  refine wpAny_Call_Name_kw (ld_glob I hg hm ?_ hdb)
  exact PySem.W.callWith_K0 I.kIn T.kC (run_mkx (us := []) T iC tI F1 hr hb hd hx I .nil h.1 h.2)
end

/-! ### an exception that stands: with its dict, or with none -/
/-- at a stands an exception of the class at C, its dict (if any) tracked -/
def ErrAt (H : Hp) (a C : Addr) : Prop := ∃ d : Option Addr, H a = some (exo a C d) ∧ ∀ dx, d = some dx → ∃ fs, H dx = some (exd dx fs)
theorem ErrAt.same {H H' : Hp} {a C : Addr} (h : ErrAt H a C) (s : Same H H') : ErrAt H' a C := by
  obtain ⟨d, h1, h2⟩ := h
  exact ⟨d, s _ _ h1, fun dx e => by
    obtain ⟨fs, q⟩ := h2 dx e
    exact ⟨fs, s _ _ q⟩⟩
section
variable {X : Cx} {pins : List (Addr × Obj)} {σ : St} {H : Hp} {s : Shared}
theorem XC.cl {K : PySem.W.Frag} {C : Addr} (T : XC K C) : (PySem.W.clsIn K C).isSome = true := by
  obtain ⟨cd, h, _⟩ := PySem.W.any_some T.hd
  rw [h]
  rfl
theorem ErrAt.inst {a C : Addr} (I : Inv X pins σ H s) (h : ErrAt H a C) : ∃ ox od, PySem.W.InstAt s.heap a ox C od := by
  obtain ⟨d, h1, h2⟩ := h
  obtain ⟨t1, ho⟩ := exo_at I.hok h1
  cases d with
  | none => exact ⟨_, none, ho, rfl, rfl, trivial⟩
  | some dx =>
    obtain ⟨fs, q⟩ := h2 dx rfl
    obtain ⟨mA, ⟨oD, _, _, hoD, _⟩, _⟩ := exd_at I.hok q
    exact ⟨_, some oD, ho, rfl, rfl, hoD⟩
/-- isinstance(e, c) of a standing exception -/
def rIsX (K : PySem.W.Frag) : List V → Hp → VK → Prop := fun xs H Q => ∃ (a C : Addr) (c : V) (u : Value) (b : Bool), xs = [.ref a, c] ∧ ErrAt H a C ∧ XC K C ∧ ClsV c u ∧ PySem.W.kitOne K (.ref C) u = some b ∧ Q (.bl b) H
theorem call_isX : CallR X (.builtin "isinstance") (rIsX X.K) := by
  intro pins s σ H xs us Q I r h
  obtain ⟨a, C, c, u, b, rfl, hE, T, k, e, q⟩ := h
  obtain ⟨u1, u2, rfl, r1, r2⟩ := vals2 r
  have e2 := k.eq r2
  subst e2
  cases (show u1 = Value.ref a from r1)
  obtain ⟨ox, od, J⟩ := hE.inst I
  exact PySem.W.kia_one (PySem.W.kitx_exc T.cl T.hga T.hgt T.o.exC T.ha T.hn T.ht T.hm) I.kIn J e (fun z => nomatch z) fun tk => ⟨.bl b, H, I.tok tk, rfl, q⟩
/-- e.f of a standing exception -/
def tXfv (K : PySem.W.Frag) (f : Str) (te : TE) : TE := fun σ H Q => te σ H fun x H1 => ∃ (a C dx : Addr) (fs : List (Str × V)) (v : V), x = .ref a ∧ XC K C ∧ PySem.W.findIn K (.ref C) f = some none ∧ H1 a = some (exo a C (some dx)) ∧ H1 dx = some (exd dx fs) ∧ fs.lookup f = some v ∧ Q v H1
theorem pe_xfv {e : Expr} {te : TE} {pos : Pos} {n : Str} (he : PE X e te) (hb : attributeBase e n X.env (eval e X.env) = eval e X.env := by rfl) : PE X (.Attribute e n pos) (tXfv X.K n te) := by
  refine ⟨fun pins s σ H Q I h => ?_⟩
  refine attr_of hb (thn (he.run pins s σ H _ I h) fun u s1 hh => ?_)
  obtain ⟨x, H1, I1, rx, a, C, dx, fs, v, ex, T, hno, ea, ed, l, q⟩ := hh
  subst ex
  obtain rfl : u = Value.ref a := rx
  obtain ⟨t1, ho⟩ := exo_at I1.hok ea
  obtain ⟨mA, hns, hr⟩ := exd_at I1.hok ed
  obtain ⟨od, hod, hl⟩ := lookIn_ns hns
  obtain ⟨u, hu, ru⟩ := RelO.some_of (v := v) (o := mA n) (by rw [← l]; exact hr n)
  have J : PySem.W.InstAt s1.heap a _ C (some od) := ⟨ho, rfl, rfl, hod⟩
  exact HandSPX.exc_get I1.kIn J T.hga T.hgt T.o.exC (PySem.W.findObj_own T.hd hno rfl (by rw [hl, hu])) (handed_of ru) ⟨v, H1, I1.tok _, ru, q⟩
end
end L2.My
end
section
set_option Elab.async false
set_option linter.all false
set_option maxRecDepth 100000
set_option maxHeartbeats 4000000
/-! Small rules of our own. -/
namespace L2.My
open PySem PySem.Spec PyProof.Rows
section
variable {X : Cx}
theorem pt_and {a b : Expr} {rest : List Expr} {pos : Pos} {tA tB : TT} (ha : PT X a tA) (hb : PW X (.BoolOp .And (b :: rest) pos) tB) : PT X (.BoolOp .And (a :: b :: rest) pos) (tAnd tA tB) := (pw_and ha hb).pt
theorem pt_or {a b : Expr} {rest : List Expr} {pos : Pos} {tA tB : TT} (ha : PT X a tA) (hb : PW X (.BoolOp .Or (b :: rest) pos) tB) : PT X (.BoolOp .Or (a :: b :: rest) pos) (tOr tA tB) := (pw_or ha hb).pt
theorem op_le_str : OpR X (compareOp .LtE) (fun x y H Q => ∃ i j, x = .str i ∧ y = .str j ∧ Q (.bl (!decide (j.cps.toList < i.cps.toList))) H) := by
  intro pins s σ H x y v u Q I rx ry h
  obtain ⟨i, j, rfl, rfl, q⟩ := h
  obtain ⟨t, rfl⟩ := rx
  obtain ⟨t', rfl⟩ := ry
  exact P.le_str (fin_bl I q (by simp))
/-- d in a tuple of data -/
def rInTD (K : PySem.W.Frag) : R2 := fun x y H Q => ∃ d ds, Dp K H x d ∧ Dp K H y (.tuple ds) ∧ SeqAt.shaped d = true ∧ SeqAt.shaped (.tuple ds) = true ∧ Q (.bl (ds.any fun z => PyData.eqv z d)) H
def rNotInTD (K : PySem.W.Frag) : R2 := fun x y H Q => ∃ d ds, Dp K H x d ∧ Dp K H y (.tuple ds) ∧ SeqAt.shaped d = true ∧ SeqAt.shaped (.tuple ds) = true ∧ Q (.bl (!ds.any fun z => PyData.eqv z d)) H
theorem op_inTD (hu : X.A.units + 65 < cLine) : OpR X (compareOp .In) (rInTD X.K) := by
  intro pins s σ H x y v u Q I rx ry h
  obtain ⟨d, ds, hd, he, sd, se, q⟩ := h
  obtain ⟨as, r1⟩ := Dp.reads I d x v hd rx
  obtain ⟨bs, r2⟩ := Dp.reads I (.tuple ds) y u he ry
  exact SeqAt.in_tuple_reads r2 r1 (SeqAt.canLay_of_shaped se) (SeqAt.canLay_of_shaped sd) (room_in_shaped sd hu) ⟨.bl _, H, I, rfl, q⟩
theorem op_notInTD (hu : X.A.units + 65 < cLine) : OpR X (compareOp .NotIn) (rNotInTD X.K) := by
  intro pins s σ H x y v u Q I rx ry h
  obtain ⟨d, ds, hd, he, sd, se, q⟩ := h
  obtain ⟨as, r1⟩ := Dp.reads I d x v hd rx
  obtain ⟨bs, r2⟩ := Dp.reads I (.tuple ds) y u he ry
  exact SeqAt.notIn_tuple_reads r2 r1 (SeqAt.canLay_of_shaped se) (SeqAt.canLay_of_shaped sd) (room_in_shaped sd hu) ⟨.bl _, H, I, rfl, q⟩
/-- a text, repeated -/
def strRep (z : Str) (n : Nat) : Str := ⟨(List.replicate n z.cps).foldl (· ++ ·) #[]⟩
theorem foldl_app (z : Array Nat) : ∀ (n : Nat) (a : Array Nat), ((List.replicate n z).foldl (· ++ ·) a).size = a.size + z.size * n
  | 0, a => by simp
  | n + 1, a => by
    rw [List.replicate_succ, List.foldl_cons, foldl_app z n, Array.size_append, Nat.mul_succ]
    omega
theorem strRep_len (z : Str) (n : Nat) : (strRep z n).length = z.length * n := by
  show ((List.replicate n z.cps).foldl (· ++ ·) #[]).size = _
  rw [foldl_app]
  show (#[] : Array Nat).size + z.cps.size * n = z.cps.size * n
  simp
theorem op_repS : OpR X (binaryOp .Mult) (fun x y H Q => ∃ z k, x = .str z ∧ y = .int k ∧ 2 ≤ k ∧ k ≤ 1000 ∧ 0 < z.length ∧ z.length ≤ 1000 ∧ Q (.str (strRep z k.toNat)) H) := by
  intro pins s σ H x y v u Q I rx ry h
  obtain ⟨z, k, rfl, rfl, h2, h3, h4, h5, q⟩ := h
  obtain ⟨t, rfl⟩ := rx
  obtain ⟨t', rfl⟩ := ry
  have c1 : ¬ k < 1 := by omega
  have c2 : ¬ ((k == 1 || z.length == 0) = true) := by
    simp
    omega
  refine P.mul_str ?_ (fun _ _ => ?_) (fun _ _ => ?_) ?_
  · simp
    omega
  · have h6 : (1000 : Int) ≤ (2 ^ 63 - 1) / k := by
      apply (Int.le_ediv_iff_mul_le (by omega)).mpr
      omega
    omega
  · have h7 : z.length * k.toNat ≤ 1000 * 1000 := Nat.mul_le_mul h5 (by omega)
    show decide (z.length * k.toNat > sizeLine) = false
    rw [sizeLine_eq]
    exact decide_eq_false (by omega)
  · rw [if_neg c1, if_neg c2]
    refine ⟨?_, .str _, H, I.tok _, ⟨_, rfl⟩, q⟩
    show (strRep z k.toNat).length ≤ sizeLine
    rw [strRep_len, sizeLine_eq]
    have h7 : z.length * k.toNat ≤ 1000 * 1000 := Nat.mul_le_mul h5 (by omega)
    omega
/-- how often True stands in a list of bools -/
def isTrueV (v : Value) : Bool := match v with
  | .bool b => b
  | _ => false
theorem trueV_count : ∀ {us : List Value} {bs : List Bool}, Vals (bs.map V.bl) us → us.countP isTrueV = bs.count true ∧ ∀ y ∈ us, ∃ b, y = Value.bool b
  | us, [], r => by
    cases r
    exact ⟨rfl, fun y hy => by cases hy⟩
  | us, b :: bs, r => by
    cases r with
    | cons r1 rt =>
      obtain ⟨h1, h2⟩ := trueV_count rt
      obtain rfl := (show _ = Value.bool b from r1)
      refine ⟨?_, fun y hy => ?_⟩
      · rw [List.countP_cons, List.count_cons, h1]
        cases b <;> rfl
      · rcases List.mem_cons.mp hy with e | e
        · exact ⟨b, e⟩
        · exact h2 y e
def rCntB (K : PySem.W.Frag) : V → List V → Hp → VK → Prop := fun x xs H Q => ∃ (p : Addr) (bs : List Bool), x = .ref p ∧ xs = [.bl true] ∧ SqL K H p (bs.map V.bl) ∧ Q (.int (bs.count true : Nat)) H
theorem mt_lcountB : MtR X "list.count" (rCntB X.K) := by
  intro pins s σ H x xs v us Q I rx rxs h
  obtain ⟨p, bs, rfl, rfl, hs, q⟩ := h
  cases rx
  obtain ⟨u, rfl, ru⟩ := rxs.one
  cases (show u = Value.bool true from ru)
  obtain ⟨its, rv, ⟨⟨cls, dd, data, sl⟩, n, ho, hc, hdn, hd⟩, hlen⟩ := I.list hs
  simp only at hc hd
  subst hc hd
  obtain ⟨ec, hall⟩ := trueV_count rv
  refine call_meets PySem.F.slot_list_count ⟨_, ho, rfl⟩ PySem.F.entry_list_count (PySem.F.args_list_count_2 _ _)
    (SeqAt.list_countAt p its.toArray n dd sl (.bool true) isTrueV) ⟨ho, fun y hy => ?_, ?_⟩
  · obtain ⟨b, rfl⟩ := hall y (by simpa using hy)
    have z := SeqAt.EqAt.bool_bool (A := X.A.in1) (s := s) b true
    cases b <;> exact z
  · refine ⟨.int (bs.count true : Nat), H, I.tok _, ⟨s.toks, ?_⟩, q⟩
    show Value.int ((its.toArray.toList.countP isTrueV : Nat) : Int) s.toks = Value.int ((bs.count true : Nat) : Int) s.toks
    rw [show its.toArray.toList = its from rfl, ec]
/-- l.extend(t), t a tuple -/
def rExtT (K : PySem.W.Frag) : V → List V → Hp → VK → Prop := fun x vs H Q => ∃ l b xs zs, x = .ref l ∧ vs = [.ref b] ∧ H l = some (.lst xs) ∧ SqT K H b zs ∧ xs.length + zs.length ≤ sizeLine ∧ Q .non (upd H l (.lst (xs ++ zs)))
theorem ext_tup (l : Addr) (items : Array Value) (n : Nat) (b : Addr) (o : Obj) (items2 : Array Value) (n2 : Nat) (ho : o.cls = .type "tuple") (hd : o.data = .seq items2 n2) (hs0 : ¬(!items.isEmpty && Builtin.List.listTooLong (items.size + items2.size)) = true) (hs1 : items.size ≤ sizeLine) (hs2 : items.size + items2.size ≤ sizeLine + 1) :
    Meets (Builtin.«list.extend» ⟨[.ref l, .ref b], []⟩) (fun _ R s => s.heap.get? l = some { cls := .type "list", dict := none, data := .seq items n, slots := #[] } ∧ s.heap.get? b = some o ∧ R (.ok (.ret Value.none)) { s with heap := s.heap.update l (Obj.mapSeq fun x => x ++ items2), toks := s.toks }) :=
  .of_wp fun prog w A R s h => by
    obtain ⟨hp, g, d, tk, os⟩ := s
    obtain ⟨hl, hb, h⟩ := h
    obtain ⟨oc, od, dt, sl⟩ := o
    dsimp only at ho hd
    subst ho hd
    have f2 := sub_tuple_tuple
    have f3 := sub_list_list
    have f4 := sub_tuple_list
    have f5 := sub_list_tuple
    have hz' : (items ++ items2).size ≤ sizeLine + 1 := by
      rw [Array.size_append]
      exact hs2
    wp_walk using (wpAny_updateSeq hl rfl (hz := hs1) (_hz' := hz')), wpAny_loadPart' hl, wpAny_loadPart' hb
    exact ⟨_, rfl, h⟩
theorem mt_extT : MtR X "list.extend" (rExtT X.K) := by
  intro pins s σ H x vs v us Q I rx rv h
  obtain ⟨l, b, xs, zs, rfl, rfl, hH, hB, hz, q⟩ := h
  cases rx
  obtain ⟨u, rfl, ru⟩ := rv.one
  cases ru
  obtain ⟨z, its, n, r, hl, e⟩ := I.lstM hH
  obtain ⟨its2, r2, ⟨o, e2, c2, n2, d2⟩, _⟩ := I.tuple hB
  have hl2 := r2.length
  have hsz : its.toArray.size + its2.toArray.size ≤ sizeLine := by
    rw [List.size_toArray, List.size_toArray]
    omega
  have hlong : ¬ (!its.toArray.isEmpty && Builtin.List.listTooLong (its.toArray.size + its2.toArray.size)) = true := by
    rw [notLongL hsz, Bool.and_false]
    exact Bool.false_ne_true
  refine call_meets F.slot_list_extend ⟨_, e, rfl⟩ F.entry_list_extend (F.args_list_extend_2 _ _)
    (ext_tup l its.toArray n b o its2.toArray n2 c2 d2 hlong (by rw [List.size_toArray]; omega) (by omega)) ⟨e, e2, ?_⟩
  refine ⟨.non, _, I.lset (its' := its ++ its2) hH e (by simp) (r.append r2) ?_, rfl, q⟩
  rw [List.length_append]
  omega
end
end L2.My
end
section
set_option Elab.async false
set_option linter.all false
set_option maxRecDepth 100000
set_option maxHeartbeats 4000000
/-! max of a list of ints with a default. -/
namespace PySem
section
variable {prog : Program} {w : World} {A : Around} {R : Result → Shared → Prop} {I : Addr} {fp wr : List Addr} {n : Nat} {P : Nat → Value → Prop} {St : Nat → Heap → Prop} {kw : List (Str × Value)}
theorem maxKw_turn (W : Walks prog w A.in1 I fp wr n P St) (bt : Nat → Nat → Bool) (hcmp : CmpOf prog w A.in1 .Gt P bt) (S : Addr) (hSf : S ∉ fp) :
    ∀ (k j : Nat) (s : Shared) (vb : Value) (c : Nat), n - (j + 1) = k → j + 1 ≤ n → St (j + 1) s.heap → P (argBest bt j) vb →
      s.heap.get? S = some { cls := .type "list", dict := none, data := .seq #[vb, vb] c, slots := #[] } →
      (∀ v h' tk, P (argBest bt (n - 1)) v → (∀ b o, b ∉ wr → b ≠ S → s.heap.get? b = some o → h'.get? b = some o) → R (.ok (.ret v)) { s with heap := h', toks := tk }) →
      codeAny (model prog w) A (.builtin "max.loop" ⟨[.ref I, .none, .ref S], kw⟩) R s := by
  have away : S ∉ wr := fun h => hSf (W.sub _ h)
  have name : (toString "max" ++ toString ".loop" : String) = "max.loop" := by decide
  intro k
  induction k with
  | zero =>
    intro j s vb c hk hj st pb hS hR
    have last : j + 1 = n := by omega
    refine codeAny_builtin F.entry_max_loop ?_
    rw [Around.under_plainId F.plain_max_loop _]
    refine wpAny_bind (m := seqItems? (.ref S)) (wpAny_seqItems hS rfl ?_)
    refine wpAny_bind (wpAny_tryCatch (W.done s _ _ (last ▸ st) fun h' tk keep => ?_))
    have hS2 := keep S _ away hS
    refine wpAny_bind (m := updateSeq S (fun _ => #[])) ?_
    refine wpAny_updateSeq hS2 rfl (wpAny_bind (wpAny_letGo (wpAny_pure ?_)))
    refine hR vb _ tk (by rw [← last]; exact pb) fun b o n1 n2 e => ?_
    rw [Heap.get?_update_other _ _ (Ne.symm n2)]
    exact keep b o n1 e
  | succ k ih =>
    intro j s vb c hk hj st pb hS hR
    have more : j + 1 < n := by omega
    refine codeAny_builtin F.entry_max_loop ?_
    rw [Around.under_plainId F.plain_max_loop _]
    refine wpAny_bind (m := seqItems? (.ref S)) (wpAny_seqItems hS rfl ?_)
    refine wpAny_bind (wpAny_tryCatch (W.item (j + 1) s _ _ more st fun v h' tk pv st2 keep => ?_))
    have hS2 := keep S _ away hS
    refine wpAny_bind (wpAny_pure ?_)
    refine wpAny_bind (wpAny_tryCatch (wpAny_holding (wpAny_bind (hcmp (j + 1) (argBest bt j) v vb _ _ _ pv pb ?_))))
    refine wpAny_bind (wpAny_holding (wpAny_truthy_bool ?_))
    refine wpAny_bind (wpAny_letGo (wpAny_pure ?_))
    cases hb : bt (j + 1) (argBest bt j) with
    | true =>
      simp only [if_true]
      refine wpAny_bind ?_
      refine wpAny_updateSeq hS2 rfl (wpAny_bind (wpAny_letGo ?_))
      rw [name]
      refine wpAny_pure ⟨plainId_quiet F.plain_max_loop _, ih (j + 1) _ v _ (by omega) more (W.frame _ _ _ st2 fun b hbf o e => ?_) (by simp only [argBest, hb, if_true]; exact pv) (Heap.get?_update_self _ hS2 rfl) fun v' h2 tk2 p2 k2 => ?_⟩
      · rw [Heap.get?_update_other _ _ (fun z : S = b => hSf (by rw [z]; exact hbf))]
        exact e
      · refine hR v' h2 tk2 p2 fun b o n1 n2 e => k2 b o n1 n2 ?_
        rw [Heap.get?_update_other _ _ (Ne.symm n2)]
        exact keep b o n1 e
    | false =>
      simp only [Bool.false_eq_true, if_false]
      refine wpAny_bind (wpAny_letGo ?_)
      rw [name]
      refine wpAny_pure ⟨plainId_quiet F.plain_max_loop _, ih (j + 1) _ vb c (by omega) more st2 (by simp only [argBest, hb, Bool.false_eq_true, if_false]; exact pb) hS2 fun v' h2 tk2 p2 k2 => ?_⟩
      exact hR v' h2 tk2 p2 fun b o n1 n2 e => k2 b o n1 n2 (keep b o n1 e)
end
section
variable {prog : Program} {w : World} {A : Around} {E : Value → Shared → Prop} {s : Shared}
/-- a built-in function called with keywords: its own tree -/
theorem call_kw_tree {id : String} {b : Builtin} {args : List Value} {kw : List (Str × Value)} {Q : Value → Shared → Prop} (hk : builtinKind id = none) (hp : plainId id = true) (hb : entryFor table id = some b) (ha : argsOk id ⟨args, kw⟩)
    (hc : wpAny (model prog w) A.in1 (b ⟨args, kw⟩) (fun fin s' => match fin with
      | .done f => (match (Except.ok f : Result) with | .ok (.ret v) => Q v s' | .ok _ => False | .error e => E e s')
      | .again c' => c'.quiet = true ∧ codeAny (model prog w) A c' (fun r s' => match r with | .ok (.ret v) => Q v s' | .ok _ => False | .error e => E e s') s') E s) :
    wpAny (model prog w) A (call (.builtin id) args kw) Q E s := by
  refine wpAny_call (codeAny_call_builtin hp hb ?_)
  simp only [checkBuiltinCall, hk]
  cases hsig : Manifest.signature? id with
  | none => exact wpAny_pure hc
  | some sig =>
    simp only [argsOk, hsig] at ha
    show wpAny _ A.in1 (Bind.checkArgs id sig ⟨args, kw⟩) _ _ s
    rw [show Bind.checkArgs id sig ⟨args, kw⟩ = pure () from ha]
    exact wpAny_pure hc
theorem args_maxD (a d : Value) : argsOk "max" ⟨[a], [(Str.ofString "default", d)]⟩ := by
  unfold argsOk
  kernel_rfl
theorem bind_maxD (d : Value) : Builtin.Builtins.bindParams "max" ["key", "default"] 0 ⟨[], [(Str.ofString "default", d)]⟩ = pure [none, some d] := by
  kernel_rfl
theorem max_intListD {l : Addr} {xs : Array (Int × Tok)} {d : Value} {Q : Value → Shared → Prop} (hh : A.handled = none) (hl : s.heap.IsList l (intItems xs))
    (h0 : xs.size = 0 → ∀ h' tk, (∀ b o, s.heap.get? b = some o → h'.get? b = some o) → Q d { s with heap := h', toks := tk })
    (h : 0 < xs.size → ∀ v h' tk, (intItems xs)[argBest (fun i j => decide (numAt xs i > numAt xs j)) (xs.size - 1)]? = some v → (∀ b o, s.heap.get? b = some o → h'.get? b = some o) → Q v { s with heap := h', toks := tk }) :
    wpAny (model prog w) A (call (.builtin "max") [.ref l] [(Str.ofString "default", d)]) Q E s := by
  have name : (toString "max" ++ toString ".loop" : String) = "max.loop" := by decide
  refine call_kw_tree F.kind_max F.plain_max F.entry_max (args_maxD _ _) ?_
  refine wpAny_bind (m := Builtin.Builtins.bindParams "max" ["key", "default"] 0 ⟨[], [(Str.ofString "default", d)]⟩) (wpAny_of_eq (bind_maxD d) ?_)
  refine wpAny_bind (wpAny_pure ?_)
  refine wpAny_bind (iter_intList hl fun s₂ e st hfp hlI => ?_)
  subst e
  refine wpAny_bind (wpAny_newObj_type ?_)
  rw [name]
  have W := Walks.list (prog := prog) (w := w) (A := A.in1) hh _ l hlI (intItems xs)
  have ne : (s.heap.push { cls := .type "list_iterator", data := .fields #[.ref l, .int 0 0] }).objs.size ∉ [s.heap.objs.size, l] := fun hm => Nat.lt_irrefl _ (hfp _ hm)
  have up : ∀ {b : Addr} {o o2 : Obj}, s.heap.get? b = some o → ((s.heap.push { cls := .type "list_iterator", data := .fields #[.ref l, .int 0 0] }).push o2).get? b = some o := fun e => Heap.get?_push_of_some _ (Heap.get?_push_of_some _ e)
  have old : ∀ {b : Addr} {o : Obj}, s.heap.get? b = some o → b ∉ [s.heap.objs.size] := fun e hm => by
    rcases List.mem_cons.mp hm with z | z
    · exact absurd (z ▸ Heap.lt_size e) (Nat.lt_irrefl _)
    · cases z
  have old2 : ∀ {b : Addr} {o : Obj}, s.heap.get? b = some o → b ≠ (s.heap.push { cls := .type "list_iterator", data := .fields #[.ref l, .int 0 0] }).objs.size := fun e => Nat.ne_of_lt (Heap.lt_size (Heap.get?_push_of_some _ e))
  have st0 := W.frame 0 _ ((s.heap.push { cls := .type "list_iterator", data := .fields #[.ref l, .int 0 0] }).push { cls := .type "list", data := .seq #[] }) st fun b _ o e => Heap.get?_push_of_some _ e
  have hS : ((s.heap.push { cls := .type "list_iterator", data := .fields #[.ref l, .int 0 0] }).push { cls := .type "list", data := .seq #[] }).get? (s.heap.push { cls := .type "list_iterator", data := .fields #[.ref l, .int 0 0] }).objs.size = some { cls := .type "list", data := .seq #[] } := Heap.get?_push_size _ rfl
  refine wpAny_pure ⟨plainId_quiet F.plain_max_loop _, ?_⟩
  refine codeAny_builtin F.entry_max_loop ?_
  rw [Around.under_plainId F.plain_max_loop _]
  refine wpAny_bind (m := seqItems? (.ref _)) (wpAny_seqItems hS rfl ?_)
  have szE : (intItems xs).size = xs.size := by simp [intItems]
  by_cases hz : xs.size = 0
  · refine wpAny_bind (wpAny_tryCatch (W.done _ _ _ (by rw [szE, hz]; exact st0) fun h' tk keep => ?_))
    refine wpAny_bind (wpAny_rule (wpAny_pure ?_))
    exact h0 hz h' tk fun b o e => keep b o (old e) (up e)
  · refine wpAny_bind (wpAny_tryCatch (W.item 0 _ _ _ (by rw [szE]; omega) st0 fun v h' tk pv st2 keep => ?_))
    have hS2 := keep _ _ (by simp [Heap.size_push]) hS
    refine wpAny_bind (wpAny_pure ?_)
    refine wpAny_bind ?_
    refine wpAny_updateSeq hS2 rfl ?_
    rw [name]
    refine wpAny_pure ⟨plainId_quiet F.plain_max_loop _, maxKw_turn W _ (CmpOf.ints_gt (numAt xs) (fun _ _ => intItems_at)) _ ne _ 0 _ v _ rfl (by rw [szE]; omega) (W.frame _ _ _ st2 fun b hbf o e => ?_) pv (Heap.get?_update_self _ hS2 rfl) fun v' h2 tk2 p2 k2 => ?_⟩
    · rw [Heap.get?_update_other _ _ (fun z => ne (by rw [z]; exact hbf))]
      exact e
    · rw [szE] at p2
      refine h (by omega) v' h2 tk2 p2 fun b o e => k2 b o (old e) (old2 e) ?_
      rw [Heap.get?_update_other _ _ (Ne.symm (old2 e))]
      exact keep b o (old e) (up e)
end
end PySem
namespace L2.My
open PySem PySem.Spec PyProof.Rows
section
variable {X : Cx}
/-- max(xs, default=d) of a list of ints -/
def rMaxD (K : PySem.W.Frag) : List V → List V → Hp → VK → Prop := fun xs zs H Q => ∃ (a : Addr) (ns : List Int) (d : Int), xs = [.ref a] ∧ zs = [.int d] ∧ SqL K H a (ns.map V.int) ∧ (ns = [] → Q (.int d) H) ∧ ∀ m, m ∈ ns → (∀ y, y ∈ ns → y ≤ m) → Q (.int m) H
theorem cr_maxD (hc : X.calm = true) : CallRK X (.builtin "max") [Str.ofString "default"] (rMaxD X.K) := by
  intro pins s σ H vs zs us ws Q I r rz h
  obtain ⟨a, ns, d, rfl, rfl, hs, q0, q1⟩ := h
  obtain ⟨its, rv, hl, _⟩ := I.list hs
  have hi := rv.ints
  obtain rfl := Vals.ref1 r
  obtain ⟨w1, rfl, e1⟩ := vals1 rz
  obtain ⟨td, rfl⟩ := (show ∃ t, w1 = Value.int d t from e1)
  obtain ⟨xs, e⟩ := hi.allInts.items
  have hn : numsOf (intItems xs).toList = ns := by rw [← e]; exact hi.numsOf
  rw [nums_intItems] at hn
  have hl2 := hl.isList
  rw [e] at hl2
  have ez : ns.length = xs.size := by rw [← hn, List.length_map, Array.length_toList]
  refine PySem.max_intListD (I.ok.hd hc) hl2 (fun h0 h' tk keep => ?_) fun h0 v h' tk hv keep => ?_
  · exact ⟨.int d, H, I.kept keep, ⟨td, rfl⟩, q0 (List.eq_nil_of_length_eq_zero (by rw [ez, h0]))⟩
  · obtain ⟨t, rfl⟩ := intItems_at hv
    obtain ⟨h1, h2⟩ := argBest_gt (numAt xs) (xs.size - 1)
    refine ⟨.int _, H, I.kept keep, ⟨t, rfl⟩, q1 _ ?_ fun y hy => ?_⟩
    · rw [← hn, numAt_eq]
      exact PySem.getD_mem (by rw [List.length_map, Array.length_toList]; omega)
    · rw [← hn] at hy
      obtain ⟨j, hj, rfl⟩ := mem_getD hy
      rw [List.length_map, Array.length_toList] at hj
      rw [← numAt_eq]
      exact h2 j (by omega)
end
end L2.My
end
section
set_option Elab.async false
set_option linter.all false
set_option maxRecDepth 100000
set_option maxHeartbeats 4000000
namespace L2.My
open PySem PySem.Spec PyProof.Rows
theorem same_upd {H : Hp} {p : Addr} {o : HO} (h : H p = none) : Same H (upd H p o) := fun b x e => by
  rw [upd_ne (ne_of_none e h)]
  exact e
theorem keep_ne {H : Hp} {p : Addr} {o : HO} {b : Addr} {x : HO} (h : H p = none) (e : H b = some x) : (upd H p o) b = some x := same_upd h _ _ e
theorem cutTo (xs : List V) (n : Nat) : cutV xs none (some (n : Int)) = xs.take n := by
  unfold cutV
  rw [HT.sIx_none, HT.sIx_nat]
  rw [List.drop_zero, Nat.sub_zero]
  rw [← List.take_eq_take_min]
theorem ixN_zero {n : Nat} (h : 0 < n) : ixN n 0 = some 0 := by
  unfold ixN
  rw [if_pos (by omega), if_pos (by omega)]
  rfl
theorem mod_in {x m : Int} (h : 0 < m) : 0 ≤ x % m ∧ x % m < m := ⟨Int.emod_nonneg _ (by omega), Int.emod_lt_of_pos _ h⟩
inductive ThT (H : Hp) : V → String → Prop where
  | non : ThT H .non "NoneType"
  | bl (b : Bool) : ThT H (.bl b) "bool"
  | int (i : Int) : ThT H (.int i) "int"
  | str (x : Str) : ThT H (.str x) "str"
  | lst {a : Addr} {xs : List V} (h : H a = some (.lst xs)) : ThT H (.ref a) "list"
  | tup {a : Addr} {xs : List V} (h : H a = some (.tup xs)) : ThT H (.ref a) "tuple"
  | dct {a : Addr} {kvs : List (Key × V)} (h : H a = some (.dK kvs)) : ThT H (.ref a) "dict"
def instT (t n : String) : Bool := t == n || (t == "bool" && n == "int")
theorem ThT.tyX {K : PySem.W.Frag} {H : Hp} {v : V} {t : String} (h : ThT H v t) : TyX K H v (.type t) := by
  cases h with
  | non => exact .base .non
  | bl b => exact .base (.bl b)
  | int i => exact .base (.int i)
  | str x => exact .base (.str x)
  | lst h => exact .base (.lst h)
  | tup h => exact .base (.tup h)
  | dct h => exact .base (.dK h)
theorem kitB_all : ∀ t ∈ ["NoneType", "bool", "int", "str", "list", "tuple", "dict"], ∀ n ∈ ["bool", "int", "str", "list", "tuple", "dict"], kitB t n = some (instT t n) := by decide +kernel
theorem ThT.mem {H : Hp} {v : V} {t : String} (h : ThT H v t) : t ∈ ["NoneType", "bool", "int", "str", "list", "tuple", "dict"] := by
  cases h <;> decide
theorem ThT.keep {H H' : Hp} {v : V} {t : String} (h : ThT H v t) (s : Same H H') : ThT H' v t := by
  cases h with
  | non => exact .non
  | bl b => exact .bl b
  | int i => exact .int i
  | str x => exact .str x
  | lst h => exact .lst (s _ _ h)
  | tup h => exact .tup (s _ _ h)
  | dct h => exact .dct (s _ _ h)
def rIsTh : List V → Hp → VK → Prop := fun xs H Q => ∃ v n t, xs = [v, .ty n] ∧ ThT H v t ∧ n ∈ ["bool", "int", "str", "list", "tuple", "dict"] ∧ Q (.bl (instT t n)) H
theorem call_isTh {X : Cx} : CallR X (.builtin "isinstance") rIsTh := by
  intro pins s σ H xs us Q I r h
  obtain ⟨v, n, t, rfl, ht, hn, q⟩ := h
  exact call_isi pins s σ H _ us Q I r ⟨_, _, _, _, _, rfl, .ty _, ht.tyX, kit_ty (kitB_all t ht.mem n hn), q⟩
def belowV (n : Int) : V → Bool
  | .int i => decide (0 ≤ i ∧ i < n)
  | _ => false
theorem lt1 (a b : Nat) : decide (([a] : List Nat) < [b]) = decide (a < b) := by
  by_cases h : a < b
  · rw [decide_eq_true h, decide_eq_true (by exact List.Lex.rel h)]
  · rw [decide_eq_false h]
    refine decide_eq_false fun z => ?_
    rcases (List.cons_lt_cons_iff.mp z) with z | z
    · exact h z
    · exact absurd z.2 (by simp)
theorem seq_set {te : TE} {i : Nat} {u : TS} {D : Ends} {σ : St} {H : Hp} (h : te σ H fun v H1 => u D (σ.set i (some v)) H1) : tSeq (tAsg te (gName i)) u D σ H := h
theorem seq_par3 {ta : TA} {i j l : Nat} {u : TS} {D : Ends} {σ : St} {H : Hp} (h : ta σ H fun vs H1 => ∃ x y z, vs = [x, y, z] ∧ u D (((σ.set i (some x)).set j (some y)).set l (some z)) H1) : tSeq (tPar3 i j l ta) u D σ H := h
theorem seq_par {ta : TA} {i j : Nat} {u : TS} {D : Ends} {σ : St} {H : Hp} (h : ta σ H fun vs H1 => ∃ x y, vs = [x, y] ∧ u D ((σ.set i (some x)).set j (some y)) H1) : tSeq (tPar i j ta) u D σ H := h
theorem ret_of {te : TE} {D : Ends} {σ : St} {H : Hp} (h : te σ H D.rt) : tRet te D σ H := h
theorem lst_of {ta : TA} {σ : St} {H : Hp} {Q : VK} (h : ta σ H fun xs H1 => xs.length ≤ sizeLine ∧ ∀ p, H1 p = none → Q (.ref p) (upd H1 p (.lst xs))) : tLst ta σ H Q := h
theorem tup_of {ta : TA} {σ : St} {H : Hp} {Q : VK} (h : ta σ H fun xs H1 => xs.length ≤ sizeLine ∧ ∀ p, H1 p = none → Q (.ref p) (upd H1 p (.tup xs))) : tTup ta σ H Q := h
theorem cons_of {te : TE} {ta : TA} {σ : St} {H : Hp} {Q : List V → Hp → Prop} (h : te σ H fun x H1 => ta σ H1 fun xs H2 => Q (x :: xs) H2) : tCons te ta σ H Q := h
theorem nil_of {σ : St} {H : Hp} {Q : List V → Hp → Prop} (h : Q [] H) : tNil σ H Q := h
section
variable {J : It} {n : Nat} {G : Hp → Prop} {Y : Nat → Hp → V → Hp → Prop}
def CompOut (J : It) (g : TG) (tt : TT) (te : TE) (vs : List Nat) (σ : St) (D : Addr) (Qd : Hp → Prop) (H1 : Hp) : Prop :=
    ∃ W : Nat → Nat → Hp → Prop, (∃ m, W 0 m (upd H1 D (.lst []))) ∧ ∀ i m H, W i m H →
      (J.stop i H ∧ Qd H) ∨ (J.go i H ∧ ∃ Nx : Hp → Prop, (∀ H', Nx H' → ∃ m', m' < m ∧ W (i + 1) m' H') ∧ ∀ x H', J.yld i H x H' → g x (wipe σ vs) H' fun σ2 H2 => wipe σ2 vs = wipe σ vs ∧ tt σ2 H2 fun b H3 =>
        if b = true then te σ2 H3 fun y H4 => ∃ acc, H4 D = some (.lst acc) ∧ acc.length < sizeLine ∧ Nx (upd H4 D (.lst (acc ++ [y]))) else Nx H3)
theorem range_map_snoc {α : Type} (f : Nat → α) (i : Nat) : (List.range i).map f ++ [f i] = (List.range (i + 1)).map f := by
  rw [List.range_succ, List.map_append]; rfl
theorem range_fm_snoc {α : Type} (f : Nat → Option α) (i : Nat) {v : α} (h : f i = some v) : (List.range i).filterMap f ++ [v] = (List.range (i + 1)).filterMap f := by
  rw [List.range_succ, List.filterMap_append]; simp [h]
theorem range_fm_skip {α : Type} (f : Nat → Option α) (i : Nat) (h : f i = none) : (List.range i).filterMap f = (List.range (i + 1)).filterMap f := by
  rw [List.range_succ, List.filterMap_append]; simp [h]
theorem same_grow {H H4 H1 : Hp} {D : Addr} {o : HO} (s : Same H H4) (hD : H1 D = none) (s1 : Same H1 H) : Same H1 (upd H4 D o) := fun b u e => by
  rw [upd_ne (ne_of_none e hD)]
  exact s _ _ (s1 _ _ e)
theorem lcP (w : Walk J n G Y) {g : TG} {te : TE} {vs : List Nat} {σ : St} {H1 : Hp} {D : Addr} {Qd : Hp → Prop} (fv : Nat → V) (hn : n < sizeLine) (hD : H1 D = none) (hG : ∀ H', Same H1 H' → G H')
    (hs : ∀ i x H H' (Q' : VK), i < n → Same H1 H → Y i H x H' → (∀ H4, Same H H4 → Q' (fv i) H4) → g x (wipe σ vs) H' fun σ2 H2 => wipe σ2 vs = wipe σ vs ∧ te σ2 H2 Q')
    (hd : ∀ H, Same H1 H → H D = some (.lst ((List.range n).map fv)) → Qd H) : CompOut J g tYes te vs σ D Qd H1 := by
  refine lc_it w (tt := tYes) (fun i H => Same H1 H ∧ H D = some (.lst ((List.range i).map fv))) ⟨same_upd hD, upd_same⟩ (fun i H _ h => hG H h.1) ?_ (fun H h => hd H h.1 h.2)
  rintro i x H H' hi ⟨sm, hd'⟩ y
  have q := hs i x H H' (fun v H4 => ∃ acc, H4 D = some (.lst acc) ∧ acc.length < sizeLine ∧ Same H1 (upd H4 D (.lst (acc ++ [v]))) ∧ (upd H4 D (.lst (acc ++ [v]))) D = some (.lst ((List.range (i + 1)).map fv))) hi sm y
    (fun H4 s4 => ⟨_, s4 _ _ hd', by rw [List.length_map, List.length_range]; omega, same_grow s4 hD sm, by rw [upd_same, range_map_snoc]⟩)
  exact q
theorem lcF (w : Walk J n G Y) {g : TG} {tt : TT} {te : TE} {vs : List Nat} {σ : St} {H1 : Hp} {D : Addr} {Qd : Hp → Prop} (fv : Nat → Option V) (hn : n < sizeLine) (hD : H1 D = none) (hG : ∀ H', Same H1 H' → G H')
    (hs : ∀ i x H H' (Q' : VK) (N' : Hp → Prop), i < n → Same H1 H → Y i H x H' → (∀ v, fv i = some v → ∀ H4, Same H H4 → Q' v H4) → (fv i = none → ∀ H4, Same H H4 → N' H4) →
      g x (wipe σ vs) H' fun σ2 H2 => wipe σ2 vs = wipe σ vs ∧ tt σ2 H2 fun b H3 => if b = true then te σ2 H3 Q' else N' H3)
    (hd : ∀ H, Same H1 H → H D = some (.lst ((List.range n).filterMap fv)) → Qd H) : CompOut J g tt te vs σ D Qd H1 := by
  refine lc_it w (fun i H => Same H1 H ∧ H D = some (.lst ((List.range i).filterMap fv))) ⟨same_upd hD, upd_same⟩ (fun i H _ h => hG H h.1) ?_ (fun H h => hd H h.1 h.2)
  rintro i x H H' hi ⟨sm, hd'⟩ y
  have hl : ((List.range i).filterMap fv).length < sizeLine := by
    have := List.length_filterMap_le fv (List.range i)
    rw [List.length_range] at this
    omega
  have q := hs i x H H' (fun v H4 => ∃ acc, H4 D = some (.lst acc) ∧ acc.length < sizeLine ∧ Same H1 (upd H4 D (.lst (acc ++ [v]))) ∧ (upd H4 D (.lst (acc ++ [v]))) D = some (.lst ((List.range (i + 1)).filterMap fv)))
    (fun H4 => Same H1 H4 ∧ H4 D = some (.lst ((List.range (i + 1)).filterMap fv))) hi sm y
    (fun v hv H4 s4 => ⟨_, s4 _ _ hd', hl, same_grow s4 hD sm, by rw [upd_same, range_fm_snoc fv i hv]⟩) (fun hv H4 s4 => ⟨sm.trans s4, by rw [← range_fm_skip fv i hv]; exact s4 _ _ hd'⟩)
  exact q
end
def BL (L : List Addr) (H H' : Hp) : Prop := ∀ p o, p ∉ L → H p = some o → H' p = some o
theorem BL.refl {L : List Addr} {H : Hp} : BL L H H := fun _ _ _ h => h
theorem BL.trans {L : List Addr} {H H1 H2 : Hp} (x : BL L H H1) (y : BL L H1 H2) : BL L H H2 := fun p o h e => y p o h (x p o h e)
theorem BL.same {L : List Addr} {H H' : Hp} (s : Same H H') : BL L H H' := fun p o _ e => s _ _ e
theorem BL.upd {L : List Addr} {H : Hp} {p : Addr} {o : HO} (h : p ∈ L) : BL L H (upd H p o) := fun q u hq e => by
  rw [upd_ne (fun z => hq (by rw [z]; exact h))]; exact e
theorem u65 {k : Nat} {A : Around} (h : Room k A) : A.units + 65 < cLine := by have := h.un; omega
theorem u1 {k : Nat} {A : Around} (h : Room k A) : A.units + 1 < cLine := by have := h.un; omega
def kD : Key → PyData
  | .inl i => .int i
  | .inr x => .str x
def pD (ks : List Key) : PyData := .tuple (ks.map kD)
theorem eqvAll_map {α : Type} [DecidableEq α] {f : α → PyData} (h : ∀ a b, PyData.eqv (f a) (f b) = decide (a = b)) : ∀ xs ys : List α, PyData.eqvAll (xs.map f) (ys.map f) = decide (xs = ys)
  | [], [] => by simp [PyData.eqvAll]
  | [], y :: ys => by simp [PyData.eqvAll]
  | x :: xs, [] => by simp [PyData.eqvAll]
  | x :: xs, y :: ys => by
    rw [List.map_cons, List.map_cons, PyData.eqvAll, h, eqvAll_map h xs ys]
    by_cases h1 : x = y
    · by_cases h2 : xs = ys
      · simp [h1, h2]
      · simp [h1, h2]
    · simp [h1]
theorem eqv_k (a b : Key) : PyData.eqv (kD a) (kD b) = decide (a = b) := by
  cases a with
  | inl i => cases b with
    | inl j =>
      show PyData.eqv (.int i) (.int j) = _
      rw [PyData.eqv]
      by_cases h : i = j
      · subst h; simp
      · have : ¬ (Sum.inl i : Key) = Sum.inl j := fun z => h (Sum.inl.inj z)
        rw [decide_eq_false this]; simp [h]
    | inr y =>
      show PyData.eqv (.int i) (.str y) = _
      rw [decide_eq_false (fun z => nomatch z)]; simp [PyData.eqv]
  | inr x => cases b with
    | inl j =>
      show PyData.eqv (.str x) (.int j) = _
      rw [decide_eq_false (fun z => nomatch z)]; simp [PyData.eqv]
    | inr y =>
      show PyData.eqv (.str x) (.str y) = _
      rw [PyData.eqv]
      by_cases h : x = y
      · subst h; simp
      · have : ¬ (Sum.inr x : Key) = Sum.inr y := fun z => h (Sum.inr.inj z)
        rw [decide_eq_false this]; exact beq_eq_false_iff_ne.mpr h
theorem eqv_p (a b : List Key) : PyData.eqv (pD a) (pD b) = decide (a = b) := by
  unfold pD
  rw [PyData.eqv]
  exact eqvAll_map eqv_k a b
theorem eqv_s (x y : Str) : PyData.eqv (.str x) (.str y) = decide (x = y) := by
  have := eqv_k (.inr x) (.inr y)
  rw [show PyData.eqv (.str x) (.str y) = PyData.eqv (kD (.inr x)) (kD (.inr y)) from rfl, this]
  exact key_rr x y
def rLen (K : PySem.W.Frag) : List V → Hp → VK → Prop := fun xs H Q => ∃ p ys, xs = [.ref p] ∧ (SqL K H p ys ∨ SqT K H p ys) ∧ Q (.int ys.length) H
theorem can_map {α : Type} {f : α → PyData} : ∀ {xs : List α}, (∀ x ∈ xs, PyData.canLay0 (f x) = true) → PyData.canLayAll0 (xs.map f) = true
  | [], _ => by simp [PyData.canLayAll0]
  | x :: r, h => by
    have := can_map (f := f) (xs := r) fun y hy => h y (List.mem_cons_of_mem _ hy)
    simp [PyData.canLayAll0, this, h x List.mem_cons_self]
theorem dep_map {α : Type} {f : α → PyData} {n : Nat} (h : ∀ x, PyData.depth (f x) ≤ n) : ∀ xs : List α, PyData.depthAll (xs.map f) ≤ n
  | [] => by simp [PyData.depthAll]
  | x :: r => by
    have h1 := dep_map h r
    have h2 := h x
    simp only [List.map_cons, PyData.depthAll]
    omega
theorem shaped_list {α : Type} {f : α → PyData} {n : Nat} (hn : n < 64) (hd : ∀ x, PyData.depth (f x) ≤ n) {xs : List α} (hc : ∀ x ∈ xs, PyData.canLay0 (f x) = true) : SeqAt.shaped (.list (xs.map f)) = true := by
  have h1 := can_map hc
  have h2 := dep_map hd xs
  simp only [SeqAt.shaped, PyData.canLay0, PyData.depth, Bool.and_eq_true, decide_eq_true_eq]
  exact ⟨h1, decide_eq_true (by omega)⟩
theorem shaped_ints (xs : List Int) : SeqAt.shaped (.list (xs.map .int)) = true := shaped_list (n := 1) (by decide) (fun x => by simp [PyData.depth]) fun e he => by simp [PyData.canLay0]
theorem dp_ints {K : PySem.W.Frag} {H : Hp} : ∀ xs : List Int, DpAll K H (xs.map .int) (xs.map .int)
  | [] => .nil
  | x :: r => .cons (.int x) (dp_ints r)
theorem seqT {K : PySem.W.Frag} {H H' : Hp} {a : Addr} {xs : List V} (e : Same H H') (h : SqT K H a xs) : SqT K H' a xs := by
  rcases h with (h | ⟨o, h⟩) | h
  · exact .inl (.inl (e _ _ h))
  · exact .inl (.inr ⟨o, e _ _ h⟩)
  · exact .inr h
end L2.My
end
section
set_option Elab.async false
set_option linter.all false
set_option maxRecDepth 100000
set_option maxHeartbeats 4000000
/-! enumerate of a tuple, of a dict; setdefault and comprehensions of dicts with tuple keys. -/
namespace PySem
open PySem.Spec PyProof.Rows
section
variable {prog : Program} {w : World} {A : Around} {E : Value → Shared → Prop} {s : Shared}
/-- the next key of a dict's iterator, as another iterator draws it -/
theorem my_keyNext {it d : Addr} {i n ep : Nat} {od : Obj} {es : Array DictEntry} {en : DictEntry} {Q : Value → Shared → Prop} (hit : s.heap.IsKeyIter it d i n ep) (hod : s.heap.get? d = some od) (hdd : od.data = .dict es ep)
    (hsz : es.size = n) (hx : es[i]? = some en) (hQ : ∀ h', h'.IsKeyIter it d (i + 1) n ep → Heap.SameBut it s.heap h' → Q en.key { s with heap := h' }) : wpAny (model prog w) A (Builtin.SmallTypes.nextOf (.ref it)) Q E s := by
  obtain ⟨o, ho, hc, hd⟩ := id hit
  unfold Builtin.SmallTypes.nextOf
  refine wpAny_bind (wpAny_callSpecial?_slot (name := Str.ofString "__next__") hit.typeIs F.slot_dict_keyiterator_next (wpAny_call_entry F.slot_dict_keyiterator_next hit.typeIs F.entry_dict_keyiterator_next ?_ (F.args_dict_keyiterator_next_1 _)))
  refine wpAny_bind (wpAny_pure (wpAny_bind (wpAny_bind ?_)))
  first | refine wpAny_bind (wpAny_typeNameOfWhole_keyiter hit.typeIs (wpAny_pure (wpAny_bind (wpAny_fieldsOf ho hd ?_)))) | refine wpAny_bind (wpAny_typeNameOf_keyiter hit.typeIs (wpAny_pure (wpAny_bind (wpAny_fieldsOf ho hd ?_))))
  have own : Builtin.Dict_items.ownsTuple "dict_keyiterator" = false := by decide
  simp only [own, Bool.false_eq_true, if_false]
  show wpAny _ _ (if (Value.ref d == Value.none) = true then _ else _) _ _ _
  rw [if_neg (show ¬ (Value.ref d == Value.none) = true from fun z => nomatch z)]
  refine wpAny_bind (wpAny_pure (wpAny_bind (wpAny_dictEntries hod hdd ?_)))
  rw [if_neg (by simp [hsz])]
  refine wpAny_bind (wpAny_pure (wpAny_bind (wpAny_dictEpoch hod hdd ?_)))
  rw [if_neg (by simp)]
  refine wpAny_pure ?_
  obtain ⟨lt, hen⟩ := Array.getElem?_eq_some_iff.mp hx
  simp only [show ¬ ((i : Int) < 0) by omega, if_false, Int.toNat_natCast, Array.getElem?_eq_getElem lt]
  refine wpAny_bind ?_
  first | refine wpAny_bind (wpAny_typeNameOfWhole_keyiter hit.typeIs (wpAny_pure (wpAny_bind (wpAny_isOneOf_keyiter hit.typeIs ?_)))) | refine wpAny_bind (wpAny_typeNameOf_keyiter hit.typeIs (wpAny_pure (wpAny_bind (wpAny_isOneOf_keyiter hit.typeIs ?_))))
  show wpAny _ _ (setField (.ref it) 1 (rawInt ((i : Int) + 1)) >>= _) _ _ _
  refine wpAny_bind (wpAny_setField ho hd (by simp) ?_)
  have hit2 : (s.heap.update it (Obj.mapFields (·.setIfInBounds 1 (rawInt ((i : Int) + 1))))).IsKeyIter it d (i + 1) n ep := ⟨_, Heap.get?_update_self _ ho (Obj.isFreed_of_fields (Obj.data_mapFields hd _)), (Obj.cls_mapFields ..).trans hc, by rw [Obj.data_mapFields hd]; simp [rawInt]⟩
  refine wpAny_bind (wpAny_holding (wpAny_bind (wpAny_isOneOf_keyiter (s := { s with heap := s.heap.update it (Obj.mapFields (·.setIfInBounds 1 (rawInt ((i : Int) + 1)))) }) hit2.typeIs ?_)))
  show wpAny _ _ (pure es[i].key) _ _ _
  rw [hen]
  exact wpAny_pure (wpAny_pure ⟨_, rfl, wpAny_pure (hQ _ hit2 (Heap.SameBut.update ..))⟩)
theorem my_keyEnd {it d : Addr} {i n ep : Nat} {od : Obj} {es : Array DictEntry} {Q : Value → Shared → Prop} (hh : A.handled = none) (hit : s.heap.IsKeyIter it d i n ep) (hod : s.heap.get? d = some od) (hdd : od.data = .dict es ep)
    (hsz : es.size = n) (hge : n ≤ i) (hE : ∀ h' e, Heap.ExtBut it s.heap h' → (∃ o, h'.get? e = some o ∧ o.cls = .type "StopIteration") → E (.ref e) { s with heap := h' }) : wpAny (model prog w) A (Builtin.SmallTypes.nextOf (.ref it)) Q E s := by
  obtain ⟨o, ho, hc, hd⟩ := id hit
  unfold Builtin.SmallTypes.nextOf
  refine wpAny_bind (wpAny_callSpecial?_slot (name := Str.ofString "__next__") hit.typeIs F.slot_dict_keyiterator_next (wpAny_call_entry F.slot_dict_keyiterator_next hit.typeIs F.entry_dict_keyiterator_next ?_ (F.args_dict_keyiterator_next_1 _)))
  refine wpAny_bind (wpAny_pure (wpAny_bind (wpAny_bind ?_)))
  first | refine wpAny_bind (wpAny_typeNameOfWhole_keyiter hit.typeIs (wpAny_pure (wpAny_bind (wpAny_fieldsOf ho hd ?_)))) | refine wpAny_bind (wpAny_typeNameOf_keyiter hit.typeIs (wpAny_pure (wpAny_bind (wpAny_fieldsOf ho hd ?_))))
  have own : Builtin.Dict_items.ownsTuple "dict_keyiterator" = false := by decide
  simp only [own, Bool.false_eq_true, if_false]
  show wpAny _ _ (if (Value.ref d == Value.none) = true then _ else _) _ _ _
  rw [if_neg (show ¬ (Value.ref d == Value.none) = true from fun z => nomatch z)]
  refine wpAny_bind (wpAny_pure (wpAny_bind (wpAny_dictEntries hod hdd ?_)))
  rw [if_neg (by simp [hsz])]
  refine wpAny_bind (wpAny_pure (wpAny_bind (wpAny_dictEpoch hod hdd ?_)))
  rw [if_neg (by simp)]
  refine wpAny_pure ?_
  have ge2 : es.size ≤ i := by omega
  simp only [show ¬ ((i : Int) < 0) by omega, if_false, Int.toNat_natCast, Array.getElem?_eq_none ge2]
  refine wpAny_bind ?_
  first | refine wpAny_bind (wpAny_typeNameOfWhole_keyiter hit.typeIs (wpAny_pure ?_)) | refine wpAny_bind (wpAny_typeNameOf_keyiter hit.typeIs (wpAny_pure ?_))
  show wpAny _ _ (setField (.ref it) 0 .none >>= _) _ _ _
  refine wpAny_bind (wpAny_setField ho hd (by simp) ?_)
  show wpAny _ _ (newExc (.type "StopIteration") [] >>= _) _ _ _
  simp only [newExc, newTuple]
  refine wpAny_bind (wpAny_bind (wpAny_newObj_type ?_ (by size_fits)))
  refine wpAny_bind (m := firstArgMember _ _) (wpAny_of_eq (a := Value.none) (by first | rfl | (simp only [firstArgMember]; rfl)) (wpAny_newObj_type ?_ (by size_fits)))
  simp only [raiseNew]
  refine wpAny_bind (wpAny_handled ?_)
  first | rw [show A.in1.handled = none from hh] | rw [hh]
  refine wpAny_bind (wpAny_pure (wpAny_throw ?_))
  exact hE _ _ (((Heap.SameBut.update ..).extBut.push _).push _) ⟨_, Heap.get?_push_size _ rfl, rfl⟩
end
theorem my_drawKeys {prog : Program} {w : World} {A : Around} (hh : A.handled = none) (it d : Addr) (hne : d ≠ it) (od : Obj) (es : Array DictEntry) (ep : Nat) (hdd : od.data = .dict es ep) :
    Draws prog w A it [it, d] es.size (fun i v => ∃ en, es[i]? = some en ∧ v = en.key) (fun i h => h.IsKeyIter it d i es.size ep ∧ h.get? d = some od) where
  live := fun _ _ st => let ⟨o, ho, _⟩ := st.1; ⟨o, ho⟩
  frame := fun _ _ _ st hk => ⟨st.1.at fun o e => hk it (by simp) o e, hk d (by simp) _ st.2⟩
  item := fun i s Q E hi st hQ => my_keyNext st.1 st.2 hdd rfl (en := es[i]) (by simp [hi]) fun h' hit' hs' => hQ _ h' s.toks ⟨es[i], by simp [hi], rfl⟩ ⟨hit', (hs'.2 d hne).trans st.2⟩ hs'
  done := fun s Q E st hE => my_keyEnd hh st.1 st.2 hdd rfl (Nat.le_refl _) hE
set_option maxHeartbeats 1000000 in
theorem my_enumNew {v : Value} {o : Obj} {H : Heap → Prop} (B : Begins v o H) :
    Meets (Builtin.«enumerate.__new__» ⟨[.type "enumerate", v], []⟩) (fun _ R s => H s.heap ∧ R (.ok (.ret (.ref (s.heap.push o).objs.size))) { s with heap := (s.heap.push o).push { cls := .type "enumerate", data := .fields #[.none, .bool false, .ref s.heap.objs.size, rawInt 0, .none, .none] } }) :=
  .of_wp fun prog w A R s h => by
    obtain ⟨hp, g, dr, tk, os⟩ := s
    obtain ⟨h1, h⟩ := h
    have hsub := sub_enumerate
    have q1 : ∀ {A' : Around} {E Q : Value → Shared → Prop}, Q (.ref hp.objs.size) ⟨hp.push o, g, dr, tk, os⟩ → wpAny (model prog w) A' (pyIter v) Q E ⟨hp, g, dr, tk, os⟩ := fun q => B.iter prog w _ _ ⟨hp, g, dr, tk, os⟩ _ h1 q
    wp_walk using q1
    refine wpAny_stack_any fun _ => wpAny_pure ?_
    split
    · rename_i c _ _ _ _ _
      cases (c == Value.type "enumerate") <;> (wp_walk using q1; exact ⟨_, rfl, h⟩)
    · wp_walk using q1; exact ⟨_, rfl, h⟩
theorem my_enum {prog : Program} {w : World} {A : Around} {E : Value → Shared → Prop} {s : Shared} {v : Value} {o : Obj} {H : Heap → Prop} {Q : Value → Shared → Prop} (B : Begins v o H) (h1 : H s.heap)
    (h : ∀ h', IsEnum h' (s.heap.objs.size + 1) s.heap.objs.size 0 .none → h'.get? s.heap.objs.size = some o → (∀ b o, s.heap.get? b = some o → h'.get? b = some o) → Q (.ref (s.heap.objs.size + 1)) { s with heap := h' }) :
    wpAny (model prog w) A (call (.type "enumerate") [v]) Q E s := by
  refine callType_new F.called_enumerate (by decide) (F.typeCall_enumerate_1 _) (F.newCall_enumerate_1 _) (fun obj => F.args_object_init_2 obj _) F.entry_enumerate_new (my_enumNew B) ⟨h1, ?_⟩
  have hz : (s.heap.push o).objs.size = s.heap.objs.size + 1 := Heap.size_push ..
  have he := Heap.get?_push_size (s.heap.push o) (o := { cls := .type "enumerate", data := .fields #[.none, .bool false, .ref s.heap.objs.size, rawInt 0, .none, .none] }) rfl
  show _ ∧ _
  rw [hz] at he ⊢
  exact ⟨⟨_, he, rfl⟩, h _ he (Heap.get?_push_of_some _ (Heap.get?_push_size _ B.free)) fun b o x => Heap.get?_push_of_some _ (Heap.get?_push_of_some _ x)⟩
end PySem
end
section
set_option Elab.async false
set_option linter.all false
set_option maxRecDepth 100000
set_option maxHeartbeats 4000000
namespace L2.My
open PySem PySem.Spec PyProof.Rows
/-- the tuple at a, counted, each item in a new pair -/
def IteT (K : PySem.W.Frag) (a : Addr) : It :=
  ⟨fun i H => ∃ (xs : List V) (x : V), SqT K H a xs ∧ xs[i]? = some x, fun i H v H' => ∃ T x, v = .ref T ∧ H T = none ∧ H' = upd H T (.tup [.int (i : Nat), x]) ∧ ∀ xs, SqT K H a xs → xs[i]? = some x, fun i H => ∃ xs : List V, SqT K H a xs ∧ xs.length = i⟩
/-- the keys of the locked dict at d, counted -/
def IteK (d : Addr) (od : Obj) (kvs : List (List Key × V)) : It :=
  ⟨fun i H => H d = some (.frz od (.dT kvs)) ∧ i < kvs.length, fun i H v H' => ∃ T q k x, v = .ref T ∧ H T = none ∧ H' = upd H T (.tup [.int (i : Nat), .ref q]) ∧ kvs[i]? = some (k, x) ∧ H q = some (.tup (k.map kV)), fun i H => H d = some (.frz od (.dT kvs)) ∧ kvs.length = i⟩
section
variable {P : Program} {w : World} {K : PySem.W.Frag} {elts : List Expr} {kk : Nat} {tpos : Pos}
theorem turn_enT (a e it : Addr) : Turn P w K (.Tuple elts kk tpos) (IteT K a) [e, it] e (fun i h => (∃ old, IsEnum h e it ((i : Nat) : Int) old) ∧ h.IsTupleIter it a i ∧ e ≠ it ∧ a ≠ it ∧ a ≠ e) where
  mem := by simp
  obj := fun i h st b hb => by
    obtain ⟨⟨old, he⟩, ⟨o, ho, hc, hd⟩, _⟩ := st
    rcases (show b = e ∨ b = it by simpa using hb) with rfl | rfl
    · exact ⟨_, he, fun v q => nomatch q⟩
    · exact ⟨o, ho, fun v q => by rw [hd] at q; cases q⟩
  keep := fun i h h' st k => let ⟨⟨old, he⟩, hi, r⟩ := st; ⟨⟨old, k e (by simp) _ he⟩, hi.at fun o q => k it (by simp) o q, r⟩
  item := by
    intro X hP hw hK hc i pins s σ H E I hf st hg
    subst hP hw hK
    obtain ⟨⟨old, he⟩, hit, hne, hai, hae⟩ := st
    obtain ⟨xs, x, hq, hx⟩ := hg
    obtain ⟨its, rv, p, hz⟩ := I.tuple hq
    obtain ⟨u, hu, ru⟩ := rv.get hx
    have hel : e < s.heap.objs.size := Heap.lt_size he
    have hil : it < s.heap.objs.size := by obtain ⟨_, q, _⟩ := hit; exact Heap.lt_size q
    have lt : i < its.toArray.size := by
      have := (List.getElem?_eq_some_iff.mp hu).1
      simpa using this
    refine wpAny_pyNext_enum_itemC (Draws.tuple (prog := X.prog) (w := X.w) (A := X.A.in1) (I.ok.hd hc) it a hai its.toArray) he ⟨hit, p⟩ lt hne (by simp [hne, Ne.symm hae]) fun y h' tk hP ho hs' hT hsz hk => ?_
    obtain rfl : y = u := by
      have z : its.toArray[i]? = some u := by simpa using hu
      exact Option.some.inj (hP.symm.trans z)
    refine ⟨_, rfl, wpAny_letOwnedTupleGo_enum (s := { s with heap := h', toks := tk + 1 }) ho fun h2 he2 sb => ?_⟩
    have hT2 : h2.get? s.heap.objs.size = some { cls := .type "tuple", data := .seq #[.int i tk, y] } := (sb.2 _ (Nat.ne_of_gt hel)).trans hT
    have new : ObjOk X.prog X.w (upd H s.heap.objs.size (.tup [.int (i : Nat), x])) h2 s.heap.objs.size (.tup [.int (i : Nat), x]) := ⟨by show 2 ≤ sizeLine; decide, [.int i tk, y], .cons ⟨_, rfl⟩ (.cons ru .nil), ⟨_, hT2, rfl, _, rfl⟩⟩
    have I1 : Inv X pins σ (upd H s.heap.objs.size (.tup [.int (i : Nat), x])) { s with heap := h2, toks := tk + 1 } :=
      I.turnedNew (t' := tk + 1) (ch := [e, it]) (fun b ob hb q => (sb.2 b (fun z => hb (by simp [z]))).trans (hk b ob (fun z => hb (by simp [z])) (fun z => hb (by simp [z])) q)) hf (Nat.le_refl _) new
    refine ⟨.ref s.heap.objs.size, _, I1, rfl, ⟨_, x, rfl, I.hok.fresh (Nat.le_refl _), rfl, fun ys hy => by rw [I.tuple_inj hy hq]; exact hx⟩, ⟨⟨y, ?_⟩, hs'.1.at fun o q => (sb.2 it (Ne.symm hne)).trans q, hne, hai, hae⟩, fun b hb => ?_⟩
    · have e1 : ((i + 1 : Nat) : Int) = (i : Int) + 1 := by omega
      rw [e1]; exact he2
    · have hb' : b < s.heap.objs.size := by
        rcases (show b = e ∨ b = it by simpa using hb) with rfl | rfl
        · exact hel
        · exact hil
      rw [upd_ne (Nat.ne_of_lt hb')]
      exact (hf b hb).1
  done := by
    intro X hP hw hK hc i pins s σ H E I hf st hg
    subst hP hw hK
    obtain ⟨⟨old, he⟩, hit, hne, hai, hae⟩ := st
    obtain ⟨xs, hq, hx⟩ := hg
    obtain ⟨its, rv, p, hz⟩ := I.tuple hq
    obtain ⟨f0, f1, f2, f3, f4, f5⟩ := hf it (by simp)
    have hl := rv.length
    have ei : its.toArray.size = i := by simp; omega
    subst ei
    exact wpAny_pyNext_enum_endD (Draws.tuple (prog := X.prog) (w := X.w) (A := X.A.in1) (I.ok.hd hc) it a hai its.toArray) he ⟨hit, p⟩ fun h' eb => ⟨rfl, I.turned (t' := s.toks) (fun b o hb q => eb b o hb q) f0 f1 f3 f4 f5⟩
  self := fun A i s Q E st h => let ⟨⟨_, he⟩, _⟩ := st; wpAny_pyIter_enum he h
theorem turn_enK {d : Addr} {od : Obj} {es : Array DictEntry} {ep : Nat} {kvs : List (List Key × V)} (hdd : od.data = .dict es ep) (hsz : es.size = kvs.length) (e it : Addr) : Turn P w K (.Tuple elts kk tpos) (IteK d od kvs) [e, it] e (fun i h => (∃ old, IsEnum h e it ((i : Nat) : Int) old) ∧ h.IsKeyIter it d i es.size ep ∧ e ≠ it ∧ d ≠ it ∧ d ≠ e) where
  mem := by simp
  obj := fun i h st b hb => by
    obtain ⟨⟨old, he⟩, ⟨o, ho, hc, hd⟩, _⟩ := st
    rcases (show b = e ∨ b = it by simpa using hb) with rfl | rfl
    · exact ⟨_, he, fun v q => nomatch q⟩
    · exact ⟨o, ho, fun v q => by rw [hd] at q; cases q⟩
  keep := fun i h h' st k => let ⟨⟨old, he⟩, hi, r⟩ := st; ⟨⟨old, k e (by simp) _ he⟩, hi.at fun o q => k it (by simp) o q, r⟩
  item := by
    intro X hP hw hK hc i pins s σ H E I hf st hg
    subst hP hw hK
    obtain ⟨⟨old, he⟩, hit, hne, hai, hae⟩ := st
    obtain ⟨hd, hi⟩ := hg
    obtain ⟨hs, hgd, hx, es', ep', hdt, hsz', ent⟩ := I.frzT hd
    obtain ⟨ee1, ee2⟩ := dict_ep hdt hdd
    subst ee1 ee2
    obtain ⟨⟨k, x⟩, hkv⟩ : ∃ p, kvs[i]? = some p := ⟨kvs[i], List.getElem?_eq_getElem hi⟩
    obtain ⟨en, q, hen, hkey, hq⟩ := ent i k x hkv
    have hel : e < s.heap.objs.size := Heap.lt_size he
    have hil : it < s.heap.objs.size := by obtain ⟨_, q, _⟩ := hit; exact Heap.lt_size q
    refine wpAny_pyNext_enum_itemC (my_drawKeys (prog := X.prog) (w := X.w) (A := X.A.in1) (I.ok.hd hc) it d hai od es ep hdd) he ⟨hit, hgd⟩ (by omega) hne (by simp [hne, Ne.symm hae]) fun y h' tk hP ho hs' hT hsz2 hk => ?_
    obtain ⟨en2, hen2, rfl⟩ := hP
    rw [hen] at hen2
    cases hen2
    rw [hkey] at ho hT
    refine ⟨_, rfl, wpAny_letOwnedTupleGo_enum (s := { s with heap := h', toks := tk + 1 }) ho fun h2 he2 sb => ?_⟩
    have hT2 : h2.get? s.heap.objs.size = some { cls := .type "tuple", data := .seq #[.int i tk, .ref q] } := (sb.2 _ (Nat.ne_of_gt hel)).trans hT
    have new : ObjOk X.prog X.w (upd H s.heap.objs.size (.tup [.int (i : Nat), .ref q])) h2 s.heap.objs.size (.tup [.int (i : Nat), .ref q]) := ⟨by show 2 ≤ sizeLine; decide, [.int i tk, .ref q], .cons ⟨_, rfl⟩ (.cons rfl .nil), ⟨_, hT2, rfl, _, rfl⟩⟩
    have I1 : Inv X pins σ (upd H s.heap.objs.size (.tup [.int (i : Nat), .ref q])) { s with heap := h2, toks := tk + 1 } :=
      I.turnedNew (t' := tk + 1) (ch := [e, it]) (fun b ob hb q => (sb.2 b (fun z => hb (by simp [z]))).trans (hk b ob (fun z => hb (by simp [z])) (fun z => hb (by simp [z])) q)) hf (Nat.le_refl _) new
    refine ⟨.ref s.heap.objs.size, _, I1, rfl, ⟨_, q, k, x, rfl, I.hok.fresh (Nat.le_refl _), rfl, hkv, hq⟩, ⟨⟨.ref q, ?_⟩, hs'.1.at fun o q => (sb.2 it (Ne.symm hne)).trans q, hne, hai, hae⟩, fun b hb => ?_⟩
    · have e1 : ((i + 1 : Nat) : Int) = (i : Int) + 1 := by omega
      rw [e1]; exact he2
    · have hb' : b < s.heap.objs.size := by
        rcases (show b = e ∨ b = it by simpa using hb) with rfl | rfl
        · exact hel
        · exact hil
      rw [upd_ne (Nat.ne_of_lt hb')]
      exact (hf b hb).1
  done := by
    intro X hP hw hK hc i pins s σ H E I hf st hg
    subst hP hw hK
    obtain ⟨⟨old, he⟩, hit, hne, hai, hae⟩ := st
    obtain ⟨hd, hi⟩ := hg
    obtain ⟨hs, hgd, hx, es', ep', hdt, hsz', ent⟩ := I.frzT hd
    obtain ⟨ee1, ee2⟩ := dict_ep hdt hdd
    subst ee1 ee2
    obtain ⟨f0, f1, f2, f3, f4, f5⟩ := hf it (by simp)
    have ei : es.size = i := by omega
    subst ei
    exact wpAny_pyNext_enum_endD (my_drawKeys (prog := X.prog) (w := X.w) (A := X.A.in1) (I.ok.hd hc) it d hai od es ep hdd) he ⟨hit, hgd⟩ fun h' eb => ⟨rfl, I.turned (t' := s.toks) (fun b o hb q => eb b o hb q) f0 f1 f3 f4 f5⟩
  self := fun A i s Q E st h => let ⟨⟨_, he⟩, _⟩ := st; wpAny_pyIter_enum he h
end
def iEnT (K : PySem.W.Frag) (ta : TA) : TI := fun σ H R => ta σ H fun vs H1 => ∃ a xs, vs = [.ref a] ∧ SqT K H1 a xs ∧ R (IteT K a) H1
theorem pi_enT {X : Cx} {e : Expr} {ta : TA} {p pos tpos : Pos} {elts : List Expr} {kk : Nat} (hg : Gl X "enumerate") (hm : X.mg "enumerate" = none) (ha : PA X [e] ta) (hs : starEach [e] X.env = [(false, eval e X.env)] := by rfl) :
    PI X (.Tuple elts kk tpos) (.Call (.Name "enumerate" p) [e] [] pos) (iEnT X.K ta) := by
  refine ⟨fun pins s σ H R I h => ?_⟩
  refine Call_ (ld_blt I hg hm boot_enumerate (PyProof.Rows.callWith_type1 (thn (ha.run pos pins s σ H _ I h) fun us s1 ⟨vs, H1, I1, r1, q1⟩ => ?_) hs rfl))
  obtain ⟨a, xs, ex, hq, q⟩ := q1
  subst ex
  obtain ⟨u, rfl, rx⟩ := vals1 r1
  obtain rfl : u = Value.ref a := rx
  obtain ⟨its, rv, p', hz⟩ := I1.tuple hq
  have lta : a < s1.heap.objs.size := by obtain ⟨_, e1, _⟩ := p'; exact Heap.lt_size e1
  refine my_enum (begins_tuple a its.toArray) p' fun h' he hit hk => wpAny_pyIter_enum he ?_
  have I2 : Inv X pins σ H1 { s1 with heap := h' } := I1.kept (t' := s1.toks) hk
  refine ⟨s1.heap.objs.size + 1, [s1.heap.objs.size + 1, s1.heap.objs.size], _, _, H1, rfl, I2, turn_enT a (s1.heap.objs.size + 1) s1.heap.objs.size, ⟨⟨.none, he⟩, ⟨_, hit, rfl, rfl⟩, Nat.succ_ne_self _, Nat.ne_of_lt lta, Nat.ne_of_lt (Nat.lt_succ_of_lt lta)⟩, fun b hb => ?_, q⟩
  have hle : s1.heap.objs.size ≤ b := by
    rcases (show b = s1.heap.objs.size + 1 ∨ b = s1.heap.objs.size by simpa using hb) with z | z <;> rw [z] <;> first | exact Nat.le_succ _ | exact Nat.le_refl _
  exact I1.fpOk hle (I1.hok.fresh hle)
theorem walk_enT {K : PySem.W.Frag} {a : Addr} {xs : List V} : Walk (IteT K a) xs.length (fun H => SqT K H a xs) (YPair (fun i => some (.int (i : Nat))) (fun i => xs[i]?)) :=
  ⟨fun i _ hi q => ⟨xs, xs[i], q, by simp [hi]⟩, fun _ q => ⟨xs, q, rfl⟩, fun i H v H' _ q ⟨T, x, h1, h2, h3, h4⟩ => ⟨T, .int (i : Nat), x, h1, h2, h3, rfl, h4 xs q⟩⟩
def iEnK (ta : TA) : TI := fun σ H R => ta σ H fun vs H1 => ∃ d o kvs, vs = [.ref d] ∧ H1 d = some (.frz o (.dT kvs)) ∧ R (IteK d o kvs) H1
theorem begins_keys {d : Addr} {od : Obj} {es : Array DictEntry} {ep : Nat} (hs : (d == sysModules) = false) (hx : od.ExactDict) (hdd : od.data = .dict es ep) : Begins (.ref d) { cls := .type "dict_keyiterator", data := .fields #[.ref d, .int 0 0, .int es.size 0, .int ep 0] } fun h => h.get? d = some od where
  iter := fun prog w A E s Q h1 h => iter_keys hs h1 hx hdd h
  keeps := fun h h' x hk => hk d _ x
  free := rfl
theorem pi_enK {X : Cx} {e : Expr} {ta : TA} {p pos tpos : Pos} {elts : List Expr} {kk : Nat} (hg : Gl X "enumerate") (hm : X.mg "enumerate" = none) (ha : PA X [e] ta) (hs : starEach [e] X.env = [(false, eval e X.env)] := by rfl) :
    PI X (.Tuple elts kk tpos) (.Call (.Name "enumerate" p) [e] [] pos) (iEnK ta) := by
  refine ⟨fun pins s σ H R I h => ?_⟩
  refine Call_ (ld_blt I hg hm boot_enumerate (PyProof.Rows.callWith_type1 (thn (ha.run pos pins s σ H _ I h) fun us s1 ⟨vs, H1, I1, r1, q1⟩ => ?_) hs rfl))
  obtain ⟨d, od, kvs, ex, hq, q⟩ := q1
  subst ex
  obtain ⟨u, rfl, rx⟩ := vals1 r1
  obtain rfl : u = Value.ref d := rx
  obtain ⟨hsm, hgd, hx, es, ep, hdt, hsz, ent⟩ := I1.frzT hq
  have ltd : d < s1.heap.objs.size := Heap.lt_size hgd
  refine my_enum (begins_keys hsm hx hdt) hgd fun h' he hit hk => wpAny_pyIter_enum he ?_
  have I2 : Inv X pins σ H1 { s1 with heap := h' } := I1.kept (t' := s1.toks) hk
  refine ⟨s1.heap.objs.size + 1, [s1.heap.objs.size + 1, s1.heap.objs.size], _, _, H1, rfl, I2, turn_enK hdt hsz (s1.heap.objs.size + 1) s1.heap.objs.size, ⟨⟨.none, he⟩, ⟨_, hit, rfl, rfl⟩, Nat.succ_ne_self _, Nat.ne_of_lt ltd, Nat.ne_of_lt (Nat.lt_succ_of_lt ltd)⟩, fun b hb => ?_, q⟩
  have hle : s1.heap.objs.size ≤ b := by
    rcases (show b = s1.heap.objs.size + 1 ∨ b = s1.heap.objs.size by simpa using hb) with z | z <;> rw [z] <;> first | exact Nat.le_succ _ | exact Nat.le_refl _
  exact I1.fpOk hle (I1.hok.fresh hle)
theorem walk_enK {d : Addr} {od : Obj} {kvs : List (List Key × V)} : Walk (IteK d od kvs) kvs.length (fun H => H d = some (.frz od (.dT kvs))) (fun i H v H' => ∃ T q k x, v = .ref T ∧ H T = none ∧ H' = upd H T (.tup [.int (i : Nat), .ref q]) ∧ kvs[i]? = some (k, x) ∧ H q = some (.tup (k.map kV))) :=
  ⟨fun i _ hi q => ⟨q, hi⟩, fun _ q => ⟨q, rfl⟩, fun i H v H' _ q y => y⟩
end L2.My
end
section
set_option Elab.async false
set_option linter.all false
set_option maxRecDepth 100000
set_option maxHeartbeats 4000000
namespace L2.My
open PySem PySem.Spec PyProof.Rows
section
variable {X : Cx} {pins : List (Addr × Obj)} {σ : St} {H : Hp} {s : Shared} {a b : Addr} {v : V} {r : Value} {A : Around} {E : Value → Shared → Prop} {kvs : List (List Key × V)} {k : List Key}
theorem d_dictSetT {Q : Unit → Shared → Prop} (hu : A.units + 2 < cLine) (I : Inv X pins σ H s) (e : H a = some (.dT kvs)) (eb : H b = some (.tup (k.map kV))) (hz : kvs.length < sizeLine) (rv : RelV v r)
    (h : ∀ s', Inv X pins σ (upd H a (.dT (putK kvs k v))) s' → Q () s') : wpAny (model X.prog X.w) A (dictSet a (.ref b) r) Q E s := by
  obtain ⟨z, hd, xs, rel, dd⟩ := dt_of I.hok e
  have zx : xs.length ≤ sizeLine := by rw [← Paired.length rel]; exact z
  have hl : (putK kvs k v).length ≤ sizeLine := by have := length_putK kvs k v; omega
  refine wpAny_dictSet_heap (hsz := zx) (show A.units < cLine by omega) (key_of I.hok eb) dd fun h' dd' hs => h _ ?_
  obtain ⟨q, es, ep, hq, h2, h3, h4, _, h5⟩ := dd'
  refine d_write I (by rw [e]; exact True.intro) hs ⟨q, hq⟩ ⟨hl, hd, _, (rel.put k eb rv).keeps fun c ys ec => ?_, q, es, ep, hq, h2, h3, h4, h5⟩
  rw [upd_ne (ne_of ec e (fun z => nomatch z))]
  exact ec
theorem d_setdT {d : V} {Q : Value → Shared → Prop} (hu : A.units + 2 < cLine) (I : Inv X pins σ H s) (e : H a = some (.dT kvs)) (eb : H b = some (.tup (k.map kV))) (hz : kvs.length < sizeLine) (rd : RelV d r)
    (h1 : ∀ v, valV kvs k = some v → ∀ (w' : Value) (s' : Shared), Inv X pins σ H s' → RelV v w' → Q w' s') (h2 : valV kvs k = none → ∀ (w' : Value) (s' : Shared), Inv X pins σ (upd H a (.dT (putK kvs k d))) s' → RelV d w' → Q w' s') :
    wpAny (model X.prog X.w) A (call (.builtin "dict.setdefault") [.ref a, .ref b, r]) Q E s := by
  obtain ⟨z, hd, xs, rel, dd⟩ := dt_of I.hok e
  have zx : xs.length ≤ sizeLine := by rw [← Paired.length rel]; exact z
  have q := rel.val k
  refine call_setdefault_heap (show A.units + 1 < cLine by omega) (key_of I.hok eb) hd dd (fun p hp => ?_) (fun hn h' dd' hs => ?_) zx
  · rw [hp] at q
    cases q0 : valV kvs k with
    | none => rw [q0] at q; exact (show False from q).elim
    | some v0 => rw [q0] at q; exact h1 v0 q0 _ _ (I.tok _) q
  · rw [hn] at q
    cases q0 : valV kvs k with
    | some v0 => rw [q0] at q; exact (show False from q).elim
    | none =>
      have hl : (putK kvs k d).length ≤ sizeLine := by have := length_putK kvs k d; omega
      obtain ⟨o, es, ep, hq, e2, e3, e4, _, e5⟩ := dd'
      have J : ObjOk X.prog X.w (upd H a (.dT (putK kvs k d))) h' a (.dT (putK kvs k d)) := ⟨hl, hd, _, (rel.put k eb rd).keeps fun c ys ec => (by
        rw [upd_ne (ne_of ec e (fun z => nomatch z))]
        exact ec), o, es, ep, hq, e2, e3, e4, e5⟩
      exact h2 q0 _ _ (d_write I (by rw [e]; exact True.intro) hs ⟨o, hq⟩ J) rd
end
/-- d.setdefault(y, z), tuple keys -/
def tDSetT (td ty tx : TE) : TE := fun σ H Q => td σ H fun x H1 => ∃ a, x = .ref a ∧ IsD H1 a ∧ ty σ H1 fun y H2 => tx σ H2 fun z H3 => ∃ (kvs : List (List Key × V)) (k : List Key) (b : Addr), H3 a = some (.dT kvs) ∧ y = .ref b ∧ H3 b = some (.tup (k.map kV)) ∧ kvs.length < sizeLine ∧
  (∀ v, valV kvs k = some v → Q v H3) ∧ (valV kvs k = none → Q z (upd H3 a (.dT (putK kvs k z))))
section
variable {X : Cx} {o e f : Expr} {td ty tx : TE} {apos cpos : Pos}
theorem pe_dsetT (hu : X.A.units + 2 < cLine) (ho : PE X o td) (he : PE X e ty) (hf : PE X f tx) (m : M2 X o "setdefault" apos e f cpos) : PE X (.Call (.Attribute o "setdefault" apos) [e, f] [] cpos) (tDSetT td ty tx) := by
  refine ⟨fun pins s σ H Q I h => ?_⟩
  refine wpAny_Call_method m.base m.few m.line PySem.F.plainAttrs_dict PySem.F.slot_dict_setdefault PySem.F.type_dict_setdefault (thn (ho.run pins s σ H _ I h) fun u s1 ⟨x, H1, I1, rx, a, ex, d, q1⟩ => ?_)
  subst ex
  obtain rfl : u = Value.ref a := rx
  obtain ⟨t1, t2, _⟩ := isD_at I1 d
  refine ⟨t1, t2, ?_⟩
  rw [m.trees]
  refine Calls.callWith_builtin rfl (Calls.evalArgs_plain (Calls.spliced_cons (thn (he.run pins s1 σ H1 _ I1 q1) fun iv s2 ⟨y, H2, I2, ry, q2⟩ => Calls.spliced_cons (thn (hf.run pins s2 σ H2 _ I2 q2) fun fv s3 ⟨z, H3, I3, rz, kvs, k, b, ea, ey, eb, hl, q3, q4⟩ => Calls.spliced_nil ?_))))
  subst ey
  obtain rfl : iv = Value.ref b := ry
  exact d_setdT hu I3 ea eb hl rz (fun v hv w' s4 I4 rw' => ⟨v, _, I4, rw', q3 v hv⟩) fun hn w' s4 I4 rw' => ⟨z, _, I4, rw', q4 hn⟩
end
/-! ### a comprehension -/
def tDcT (wi : TI) (g : TG) (tt : TT) (tk tv : TE) (vs : List Nat) : TE := fun σ H Q => wi σ H fun J H1 => ∀ D, H1 D = none → ∃ W : Nat → Nat → Hp → Prop, (∃ m, W 0 m (upd H1 D (.dT []))) ∧ ∀ i m H, W i m H →
  (J.stop i H ∧ Q (.ref D) H) ∨ (J.go i H ∧ ∃ Nx : Hp → Prop, (∀ H', Nx H' → ∃ m', m' < m ∧ W (i + 1) m' H') ∧ ∀ x H', J.yld i H x H' → g x (wipe σ vs) H' fun σ2 H2 => wipe σ2 vs = wipe σ vs ∧ tt σ2 H2 fun b H3 =>
    if b = true then tk σ2 H3 fun y H4 => tv σ2 H4 fun z H5 => ∃ kvs k b, y = .ref b ∧ H5 D = some (.dT kvs) ∧ H5 b = some (.tup (k.map kV)) ∧ kvs.length < sizeLine ∧ Nx (upd H5 D (.dT (putK kvs k z))) else Nx H3)
section
variable {X : Cx}
theorem dc_coreT {pins : List (Addr × Obj)} {s : Shared} {σ : St} {H : Hp} {Q : VK} {kx vx tg iter : Expr} {ifs : List Expr} {scope : Scope} {own : List (Str × Nat)} {pos pos' : Pos} {wi : TI} {g : TG} {tt : TT} {tk tv : TE} {use : Option (Value → Sem Unit)} {Qf : Value → Shared → Prop}
    (hu : X.A.units + 2 < cLine) (hc : X.calm = true) (hN : X.N.Nodup) (I : Inv X pins σ H s) (hi : PI X tg iter wi) (ok : BlkOk X.N X.env.scope scope own)
    (hg : ∀ (s : Shared) (H : Hp) (C : Addr) (cl : List (Str × Addr)) (fp : List Addr), PG (X.blk s H scope (compEnvC scope cl C X.env) fp) tg g) (ht : ∀ (s : Shared) (H : Hp) (C : Addr) (cl : List (Str × Addr)) (fp : List Addr), PTs (X.blk s H scope (compEnvC scope cl C X.env) fp) ifs tt)
    (hk : ∀ (s : Shared) (H : Hp) (C : Addr) (cl : List (Str × Addr)) (fp : List Addr), PE (X.blk s H scope (compEnvC scope cl C X.env) fp) kx tk)
    (he : ∀ (s : Shared) (H : Hp) (C : Addr) (cl : List (Str × Addr)) (fp : List Addr), PE (X.blk s H scope (compEnvC scope cl C X.env) fp) vx tv) (hs : ∀ x, foldedSetIterable iter X.env x = pure x)
    (h : tDcT wi g tt tk tv (own.map (·.2)) σ H Q)
    (hRR : ∀ D C s' m H', Inv X pins σ H' s' → Q (.ref D) H' → s'.heap.Ns C m → FpOk X pins H' C → compPost (model X.prog X.w) X.A X.xe use Qf (.ref D) C (.ok .next) s') :
    wpAny (model X.prog X.w) X.A (comprehension (.DictComp kx vx [⟨tg, iter, ifs, 0⟩] scope pos) scope X.env pos' newDict false (eval iter X.env) use) Qf X.xe s := by
  have hfree : ∀ y ∈ scope.names, y.2 = .free → ∃ c, X.env.cells.lookup y.1 = some c := fun y hy e => by
    rcases ok.free y hy e with k | k
    · exact I.ok.has _ (.inl k)
    · exact I.ok.has _ (.inr k)
  refine wpAny_comprehension_free (use := use) rfl hs (closure_ok hfree) ok.kind (fun y hy e => by rw [ok.uniq y hy, e])
    (thn (hi.run pins s σ H _ I h) fun xv s1 hx => thn hx fun itv s2 h2 => ?_)
  obtain ⟨it, fp, tn, J, H2, e, I2, T, st2, f2, q⟩ := h2
  subst e
  refine wpAny_newObj_type (newEnv_comp ?_)
  generalize hD : s2.heap.objs.size = D
  have hDn : H2 D = none := I2.hok.fresh (Nat.le_of_eq hD)
  obtain ⟨W, ⟨m0, w0⟩, turn⟩ := q D hDn
  -- the new list
  generalize hs3 : ({ s2 with heap := s2.heap.push { cls := .type "dict", data := .dict #[] } } : Shared) = s3
  have I3 : Inv X pins σ (upd H2 D (.dT [])) s3 := by
    rw [← hs3]
    refine I2.laid (t' := s2.toks) (fun b o e => Heap.get?_push_of_some _ e) (Nat.le_of_eq hD) ?_
    rw [← hD]
    exact dt_empty s2.heap I2.big
  have h3 : s3.heap = s2.heap.push { cls := .type "dict", data := .dict #[] } := by rw [← hs3]
  have sz : ∀ b ∈ fp, b < s2.heap.objs.size := fun b hb => by
    obtain ⟨o, e, _⟩ := T.obj _ _ st2 b hb
    exact Heap.lt_size e
  have f3 : ∀ b ∈ fp, FpOk X pins (upd H2 D (.dT [])) b ∧ b < s3.heap.objs.size := fun b hb => by
    have hlt := sz b hb
    refine ⟨⟨?_, (f2 b hb).2⟩, by rw [h3, Heap.size_push]; exact Nat.lt_succ_of_lt hlt⟩
    rw [upd_ne (by rw [← hD]; exact Nat.ne_of_lt hlt)]
    exact (f2 b hb).1
  have st3 : tn 0 s3.heap := T.keep _ _ _ st2 fun b _ o e => by rw [h3]; exact Heap.get?_push_of_some _ e
  have I4 := block_start I3 ok hN f3
  have pg := hg s3 (upd H2 D (.dT [])) s3.heap.objs.size (cellsFrom (s3.heap.objs.size + 1) scope.names (cloFrom X.env.cells scope.names [])) fp
  have pt := ht s3 (upd H2 D (.dT [])) s3.heap.objs.size (cellsFrom (s3.heap.objs.size + 1) scope.names (cloFrom X.env.cells scope.names [])) fp
  have pk := hk s3 (upd H2 D (.dT [])) s3.heap.objs.size (cellsFrom (s3.heap.objs.size + 1) scope.names (cloFrom X.env.cells scope.names [])) fp
  have pe := he s3 (upd H2 D (.dT [])) s3.heap.objs.size (cellsFrom (s3.heap.objs.size + 1) scope.names (cloFrom X.env.cells scope.names [])) fp
  show codeAny _ _ (.compStart (.DictComp kx vx [⟨tg, iter, ifs, 0⟩] scope pos) 0 (.ref it) (.ref D) (compEnvC scope (cellsFrom (s3.heap.objs.size + 1) scope.names (cloFrom X.env.cells scope.names [])) s3.heap.objs.size X.env)) (compPost (model X.prog X.w) X.A X.xe use Qf (.ref D) s3.heap.objs.size) { s3 with heap := pushCells (s3.heap.push { cls := .type "dict", data := .dict #[] }) scope.names }
  have nfp : ∀ b ∈ fp, (upd H2 D (.dT [])) b = none := fun b hb => (f3 b hb).1.1
  generalize hce : compEnvC scope (cellsFrom (s3.heap.objs.size + 1) scope.names (cloFrom X.env.cells scope.names [])) s3.heap.objs.size X.env = ce at I4 pg pt pk pe ⊢
  have cL : ce.locals = s3.heap.objs.size := by subst hce; rfl
  generalize hH3 : upd H2 D (.dT []) = H3 at I3 I4 pg pt pk pe w0 nfp f3
  generalize hs4 : ({ s3 with heap := pushCells (s3.heap.push { cls := .type "dict", data := .dict #[] }) scope.names } : Shared) = s4 at I4 ⊢
  have st4 : tn 0 s4.heap := T.keep _ _ _ st3 fun b _ o e => by rw [← hs4]; exact pushCells_keeps _ _ _ _ (Heap.get?_push_of_some _ e)
  have stat : ∀ {σ' : St} {H' : Hp} {s' : Shared}, Inv (X.blk s3 H3 scope ce fp) [] σ' H' s' → (∀ b ∈ fp, H' b = none) → ∀ b ∈ fp, FpOk (X.blk s3 H3 scope ce fp) [] H' b := fun {σ' H' s'} I' hn b hb =>
    ⟨hn b hb, (I'.ok.exf b hb).1, I'.ok.exfs b hb, .inl hb, fun x c e => (I'.ok.exf b hb).2 x c e, fun p hp => absurd (show p ∈ ([] : List (Addr × Obj)) ++ [] from hp) (by simp)⟩
  have loop : codeAny (model X.prog X.w) X.A (.compLoop (.DictComp kx vx [⟨tg, iter, ifs, 0⟩] scope pos) 0 (.ref it) (.ref D) ce) (compPost (model X.prog X.w) X.A X.xe use Qf (.ref D) s3.heap.objs.size) s4 := by
    refine compLoop_anyD (fun n s' => ∃ i H', Inv (X.blk s3 H3 scope ce fp) [] (wipe σ (own.map (·.2))) H' s' ∧ tn i s'.heap ∧ (∀ b ∈ fp, H' b = none) ∧ W i n H') ?_ m0 ⟨0, H3, I4, st4, nfp, w0⟩
    rintro n s5 ⟨i, H5, I5, st5, n5, w5⟩
    rcases turn i n H5 w5 with ⟨stop, qq⟩ | ⟨go, Nx, hNx, step⟩
    · have td := T.done (X.blk s3 H3 scope ce fp) rfl rfl rfl hc i [] s5 _ H5 (fun _ _ => False) I5 (stat I5 n5) st5 stop
      refine thnF td fun r s6 ⟨hr, I6⟩ => ?_
      subst hr
      -- back in the def's context
      have I7 : Inv X pins σ H5 s6 := I3.call' (ch := fp) I6.os I6.base I6.hok I6.bare fun b hb => ⟨(f3 b hb).1.2.2.2.1, (f3 b hb).1.2.1, (f3 b hb).1.2.2.2.2.1, (f3 b hb).1.2.2.2.2.2⟩
      have nC : H5 s3.heap.objs.size = none := by
        have z : H5 ce.locals = none := I6.free
        rw [cL] at z
        exact z
      obtain ⟨m, hn, _⟩ := I6.loc
      have hn : s6.heap.Ns ce.locals m := hn
      rw [cL] at hn
      exact hRR D s3.heap.objs.size s6 m H5 I7 qq hn (I3.fpOk (Nat.le_refl _) nC)
    · have ti := T.item (X.blk s3 H3 scope ce fp) rfl rfl rfl hc i [] s5 _ H5 (fun _ _ => False) I5 (stat I5 n5) st5 go
      refine thnF ti fun r s6 ⟨u, hr, h6⟩ => ?_
      subst hr
      refine thnF h6 fun _ s7 ⟨x, H7, I7, r7, y7, st7, n7⟩ => ?_
      have I7' := I7.pinned (stat I7 n7) (T.obj _ _ st7)
      refine thnF (pg.run _ s7 _ H7 x u _ I7' r7 (step x H7 y7)) fun _ s8 ⟨σ8, H8, I8, hw8, q8⟩ => ?_
      refine thnF (pt.run _ s8 σ8 H8 _ I8 q8) fun b s9 ⟨H9, I9, q9⟩ => ?_
      -- the turn's end
      have fin : ∀ {s' : Shared} {H' : Hp}, Inv (X.blk s3 H3 scope ce fp) ([] ++ pinsAt fp s7.heap) σ8 H' s' → Nx H' → ∃ m, m < n ∧ ∃ i H', Inv (X.blk s3 H3 scope ce fp) [] (wipe σ (own.map (·.2))) H' s' ∧ tn i s'.heap ∧ (∀ b ∈ fp, H' b = none) ∧ W i m H' := fun {s' H'} I' nx => by
        obtain ⟨m', hm, w'⟩ := hNx H' nx
        have pin' : ∀ b ∈ fp, ∀ o, s7.heap.get? b = some o → s'.heap.get? b = some o ∧ H' b = none := fun b hb o e =>
          let z := I'.pin (b, o) (List.mem_append_right _ (List.mem_append_right _ (mem_pinsAt hb e)))
          ⟨z.1, z.2.1⟩
        have hl : (wipe σ (own.map (·.2))).length = σ8.length := by rw [← hw8, wipe_length]
        refine ⟨m', hm, i + 1, H', (I'.unpinned (pins := [])).weak hl (fun j v e => ?_), T.keep _ _ _ st7 fun b hb o e => (pin' b hb o e).1, fun b hb => ?_, w'⟩
        · rw [← hw8] at e
          exact (wipe_some e).1
        · obtain ⟨o, e, _⟩ := T.obj _ _ st7 b hb
          exact (pin' b hb o e).2
      cases b with
      | false =>
        simp only [Bool.false_eq_true, if_false] at q9 ⊢
        exact fin I9 q9
      | true =>
        simp only [if_true] at q9 ⊢
        refine thnF (pk.run _ s9 σ8 H9 _ I9 q9) fun z s10 ⟨yk, H10, I10, r10, q10⟩ => ?_
        refine thnF (pe.run _ s10 σ8 H10 _ I10 q10) fun z2 s11 ⟨yv, H11, I11, r11, kvs, k, b, ek, hD11, hb11, hz11, nx⟩ => ?_
        subst ek
        obtain rfl : z = Value.ref b := r10
        exact d_dictSetT (X := X.blk s3 H3 scope ce fp) hu I11 hD11 hb11 hz11 r11 fun s12 I12 => fin I12 nx
  exact codeAny_compStart_dict loop (T.self X.A 0 _ _ _ st4 loop)
/-- as a value -/
theorem pe_dcT {kx vx tg iter : Expr} {ifs : List Expr} {scope : Scope} {own : List (Str × Nat)} {pos : Pos} {wi : TI} {g : TG} {tt : TT} {tk tv : TE} (hu : X.A.units + 2 < cLine) (hc : X.calm = true) (hN : X.N.Nodup) (hi : PI X tg iter wi) (ok : BlkOk X.N X.env.scope scope own)
    (hg : ∀ (s : Shared) (H : Hp) (C : Addr) (cl : List (Str × Addr)) (fp : List Addr), PG (X.blk s H scope (compEnvC scope cl C X.env) fp) tg g) (ht : ∀ (s : Shared) (H : Hp) (C : Addr) (cl : List (Str × Addr)) (fp : List Addr), PTs (X.blk s H scope (compEnvC scope cl C X.env) fp) ifs tt)
    (hk : ∀ (s : Shared) (H : Hp) (C : Addr) (cl : List (Str × Addr)) (fp : List Addr), PE (X.blk s H scope (compEnvC scope cl C X.env) fp) kx tk)
    (he : ∀ (s : Shared) (H : Hp) (C : Addr) (cl : List (Str × Addr)) (fp : List Addr), PE (X.blk s H scope (compEnvC scope cl C X.env) fp) vx tv) (hs : ∀ x, foldedSetIterable iter X.env x = pure x := by intro _; rfl) :
    PE X (.DictComp kx vx [⟨tg, iter, ifs, 0⟩] scope pos) (tDcT wi g tt tk tv (own.map (·.2))) := by
  refine ⟨fun pins s σ H Q I h => ?_⟩
  rw [arm_eval_DictComp]
  refine dc_coreT hu hc hN I hi ok hg ht hk he hs h fun D C s' m H' I' q hn f => ⟨m, hn, fun h'' sb => ?_⟩
  obtain ⟨f0, f1, f2, f3, f4, f5⟩ := f
  exact ⟨.ref D, H', I'.turned (t' := s'.toks) (fun b o hb e => (sb.2 b hb).trans e) f0 f1 f3 f4 f5, rfl, q⟩
end
end L2.My
end
section
set_option Elab.async false
set_option linter.all false
set_option maxRecDepth 100000
set_option maxHeartbeats 4000000
namespace L2.My
open PySem PySem.Spec PyProof.Rows
def top (i : Nat) : Stmt := PySem.Challenge.pw_strangerspost_k08_whole_trees_judged.main.body.getD i (.Pass ⟨0, 0, 0, 0⟩)
abbrev mT (i : Nat) : Stmt := inClass (top 20) i
abbrev mB (i : Nat) : Stmt := inClass (top 4) i
/-- a word of letters -/
def wordS (z : Str) : Prop := 1 ≤ z.length ∧ z.length ≤ 12 ∧ z.cps.toList.all (fun c => decide (97 ≤ c) && decide (c ≤ 122)) = true
/-- all tuples stand -/
def TK (H H' : Hp) : Prop := ∀ p xs, H p = some (.tup xs) → H' p = some (.tup xs)
theorem TK.refl {H : Hp} : TK H H := fun _ _ h => h
theorem TK.trans {H H1 H2 : Hp} (a : TK H H1) (b : TK H1 H2) : TK H H2 := fun p xs h => b p xs (a p xs h)
theorem TK.same {H H' : Hp} (s : Same H H') : TK H H' := fun _ _ h => s _ _ h
theorem TK.upd {H : Hp} {a : Addr} {o : HO} {u : HO} (h : H a = some u) (hu : ∀ xs, u ≠ .tup xs) : TK H (upd H a o) := fun p xs e => by
  rw [upd_ne (fun z => by rw [z, h] at e; exact hu xs (Option.some.inj e))]
  exact e
theorem TK.bl {L : List Addr} {H H' : Hp} (s : BL L H H') (hL : ∀ p ∈ L, ∀ xs, H p ≠ some (.tup xs)) : TK H H' := fun p xs e => s p _ (fun z => hL p z xs e) e
/-! ### the text's names -/
structure Tx (mg : Str → Option Value) : Prop where
  isi : mg "isinstance" = none
  int_ : mg "int" = none
  bool_ : mg "bool" = none
  str_ : mg "str" = none
  len_ : mg "len" = none
  all_ : mg "all" = none
  tuple_ : mg "tuple" = none
  list_ : mg "list" = none
  range_ : mg "range" = none
  rev_ : mg "reversed" = none
  repr_ : mg "repr" = none
  ml : ∃ t, mg "MOST_LETTERS" = some (.int 12 t)
  mh : ∃ t, mg "MOST_HEIGHT" = some (.int 8 t)
/-- a def of the module that may be called -/
structure Cal (P : Program) (w : World) (K : PySem.W.Frag) (mg : Str → Option Value) (base : Heap) (k : Nat) (x : Str) (ps : List Str) (sp : Sp) where
  f : Addr
  fd : FuncData
  G : FnOk P w K mg base CX0 k f fd ps sp
  kp : PySem.W.keepIn K (.ref f) = true
  g : mg x = some (.ref f)
  b : Binds K fd ps []
/-- a method of a class that may be called -/
structure Met (P : Program) (w : World) (K : PySem.W.Frag) (mg : Str → Option Value) (base : Heap) (k : Nat) (C : Addr) (x : Str) (ps : List Str) (sp : Sp) where
  f : Addr
  fd : FuncData
  c : Cls K C
  m : Meth K C x f
  G : FnOk P w K mg base CX0 k f fd ps sp
  b : Binds K fd ps []
/-- a class of which objects may be made -/
structure Mak (P : Program) (w : World) (K : PySem.W.Frag) (mg : Str → Option Value) (base : Heap) (k : Nat) (C : Addr) (x : Str) (ps : List Str) (sp : Sp) where
  f : Addr
  fd : FuncData
  M : Mk K C f
  G : FnOk P w K mg base CX0 k f fd ps sp
  g : mg x = some (.ref C)
  b : Binds K fd ps []
section
variable {X : Cx} {k j : Nat} {x : Str} {ps : List Str} {sp : Sp} {C : Addr} {p pos apos : Pos} {e o : Expr} {es : List Expr} {t : TA} {to : TE}
theorem pe_c (c : Cal X.prog X.w X.K X.mg X.base k x ps sp) (hr : Room j X.A) (hk : k ≤ j) (hg : Gl X x) (ha : PA X (e :: es) t) (hdb : (x == ("__debug__" : Str)) = false := by decide)
    (he : starEach (e :: es) X.env = (false, eval e X.env) :: starEach es X.env := by rfl) (hpl : (backTo pos (starEach es X.env)).any (·.1) = false := by rfl) : PE X (.Call (.Name x p) (e :: es) [] pos) (tCall sp [] E0 t) :=
  pe_call c.G (hr.mono hk) hg c.g c.kp c.b .nil pass0 ha hdb he hpl
end
theorem sIx1 (n d : Nat) : HT.sIx n d (some 1) = min 1 n := HT.sIx_nat n d 1
theorem Paired.at {α β : Type} {R : α → β → Prop} {as : List α} {bs : List β} (h : Paired R as bs) {i : Nat} {b : β} (hb : bs[i]? = some b) : ∃ a, as[i]? = some a ∧ R a b := by
  induction h generalizing i with
  | nil => simp at hb
  | @cons x y xs ys r t ih =>
    cases i with
    | zero => simp only [List.getElem?_cons_zero, Option.some.injEq] at hb; subst hb; exact ⟨x, rfl, r⟩
    | succ i => rw [List.getElem?_cons_succ] at hb; obtain ⟨a, ha, hr⟩ := ih hb; exact ⟨a, by rw [List.getElem?_cons_succ]; exact ha, hr⟩
theorem Paired.at' {α β : Type} {R : α → β → Prop} {as : List α} {bs : List β} (h : Paired R as bs) {i : Nat} {a : α} (ha : as[i]? = some a) : ∃ b, bs[i]? = some b ∧ R a b := by
  induction h generalizing i with
  | nil => simp at ha
  | @cons x y xs ys r t ih =>
    cases i with
    | zero => simp only [List.getElem?_cons_zero, Option.some.injEq] at ha; subst ha; exact ⟨y, rfl, r⟩
    | succ i => rw [List.getElem?_cons_succ] at ha; obtain ⟨b, hb, hr⟩ := ih ha; exact ⟨b, by rw [List.getElem?_cons_succ]; exact hb, hr⟩
theorem Paired.len {α β : Type} {R : α → β → Prop} {as : List α} {bs : List β} (h : Paired R as bs) : as.length = bs.length := by
  induction h with
  | nil => rfl
  | cons _ _ ih => rw [List.length_cons, List.length_cons, ih]
theorem ref_at {as : List Addr} {i : Nat} {v : V} (h : (as.map V.ref)[i]? = some v) : ∃ a, as[i]? = some a ∧ v = .ref a := by
  rw [List.getElem?_map] at h
  cases e : as[i]? with
  | none => rw [e] at h; cases h
  | some a => rw [e] at h; exact ⟨a, rfl, (Option.some.inj h).symm⟩
theorem all_tt (n : Nat) : ((List.range n).map fun _ => true).all id = true := by simp
theorem BL.put {L : List Addr} {H G : Hp} {p : Addr} {o : HO} (b : BL L H G) (h : H p = none) : BL L H (L2.upd G p o) := fun q u hq e => by
  rw [upd_ne (fun z => by rw [z, h] at e; cases e)]
  exact b q u hq e
theorem BL.nw {L : List Addr} {H G : Hp} {p : Addr} (b : BL L H G) (h : G p = none) (hp : p ∉ L) : H p = none := by
  cases e : H p with
  | none => rfl
  | some o => rw [b _ _ hp e] at h; cases h
theorem Paired.snoc {α β : Type} {R : α → β → Prop} {as : List α} {bs : List β} {a : α} {b : β} (h : Paired R as bs) (r : R a b) : Paired R (as ++ [a]) (bs ++ [b]) := by
  induction h with
  | nil => exact .cons r .nil
  | cons r' _ ih => exact .cons r' ih
theorem take_snoc {α : Type} {l : List α} {i : Nat} {a : α} (h : l[i]? = some a) : l.take (i + 1) = l.take i ++ [a] := by
  rw [List.take_add_one, h]; rfl
theorem same_put {H G : Hp} {p : Addr} {o : HO} (b : Same H G) (h : H p = none) : Same H (upd G p o) := fun q u e => by
  rw [upd_ne (fun z => by rw [z, h] at e; cases e)]
  exact b q u e
theorem paired_app {α β : Type} {R : α → β → Prop} {as cs : List α} {bs ds : List β} (h : Paired R as bs) (k : Paired R cs ds) : Paired R (as ++ cs) (bs ++ ds) := by
  induction h with
  | nil => exact k
  | cons r _ ih => exact .cons r ih
theorem seq_use {t u : TS} {D : Ends} {σ : St} {H : Hp} (Pm : St → Hp → Prop) (h2 : ∀ σ' H', Pm σ' H' → u D σ' H') (h1 : (∀ σ' H', Pm σ' H' → u D σ' H') → t { D with nx := u D } σ H) : tSeq t u D σ H := h1 h2
end L2.My
end
section
set_option Elab.async false
set_option linter.all false
set_option maxRecDepth 100000
set_option maxHeartbeats 4000000
/-! The law's box: a dict of what was drawn. -/
namespace L2.My
open PySem PySem.Spec PyProof.Rows
abbrev sMixd : Stmt := top 22
abbrev sBox : Stmt := top 23
abbrev sRefill : Stmt := top 24
abbrev sDraw : Stmt := top 25
theorem seqL {K : PySem.W.Frag} {H H' : Hp} {a : Addr} {xs : List V} (e : Same H H') (h : SqL K H a xs) : SqL K H' a xs :=
  h.elim (fun h => .inl (h.elim (fun h => .inl (e _ _ h)) fun ⟨o, h⟩ => .inr ⟨o, e _ _ h⟩)) fun h => .inr h
theorem u1' {k : Nat} {A : Around} (h : Room k A) : A.units + 1 < cLine := by have := h.un; omega
def boxL (g : Addr) (at' rest many : Int) (great : Bool) (all : Int) : List (Key × V) := [(.inr "cells", .ref g), (.inr "at", .int at'), (.inr "rest", .int rest), (.inr "many", .int many), (.inr "great", .bl great), (.inr "all", .int all)]
def BoxAt (H : Hp) (b g : Addr) : Prop := ∃ (ns : List Int) (at' rest many all : Int) (great : Bool), H b = some (.dK (boxL g at' rest many great all)) ∧ H g = some (.lst (ns.map V.int)) ∧ 0 ≤ at' ∧ 0 ≤ rest
theorem BoxAt.ne {H : Hp} {b g : Addr} (h : BoxAt H b g) : g ≠ b := fun e => by
  obtain ⟨_, _, _, _, _, _, h1, h2, _⟩ := h
  rw [e, h1] at h2
  cases h2
theorem BoxAt.tk {H H' : Hp} {b g : Addr} (h : BoxAt H b g) (s : BL [b] H H') : TK H H' := by
  obtain ⟨_, _, _, _, _, _, h1, _⟩ := h
  exact .bl s (fun p hp xs e => by rw [List.mem_singleton.mp hp, h1] at e; cases e)
theorem BoxAt.same {H H' : Hp} {b g : Addr} (h : BoxAt H b g) (s : Same H H') : BoxAt H' b g := by
  obtain ⟨ns, a1, r, m, al, gr, h1, h2, h3⟩ := h
  exact ⟨ns, a1, r, m, al, gr, s _ _ h1, s _ _ h2, h3⟩
theorem BoxAt.put {H : Hp} {b g D : Addr} {o : HO} (h : BoxAt H b g) (hb : D ≠ b) (hg : D ≠ g) : BoxAt (L2.upd H D o) b g := by
  obtain ⟨ns, a1, r, m, al, gr, h1, h2, h3⟩ := h
  exact ⟨ns, a1, r, m, al, gr, by rw [upd_ne (Ne.symm hb)]; exact h1, by rw [upd_ne (Ne.symm hg)]; exact h2, h3⟩
theorem BoxAt.nb {H : Hp} {b g D : Addr} (h : BoxAt H b g) (n : H D = none) : D ≠ b := fun e => by
  obtain ⟨_, _, _, _, _, _, h1, _⟩ := h
  rw [e, h1] at n; cases n
theorem BoxAt.ng {H : Hp} {b g D : Addr} (h : BoxAt H b g) (n : H D = none) : D ≠ g := fun e => by
  obtain ⟨_, _, _, _, _, _, _, h2, _⟩ := h
  rw [e, h2] at n; cases n
section
variable {H : Hp} {b g : Addr} {at' rest many all x : Int} {great y : Bool}
theorem bx_cells (hb : H b = some (.dK (boxL g at' rest many great all))) : DGet H b (.str "cells") (some (.ref g)) := .inl ⟨_, .inr "cells", .inl hb, rfl, rfl⟩
theorem bx_at (hb : H b = some (.dK (boxL g at' rest many great all))) : DGet H b (.str "at") (some (.int at')) := .inl ⟨_, .inr "at", .inl hb, rfl, rfl⟩
theorem bx_rest (hb : H b = some (.dK (boxL g at' rest many great all))) : DGet H b (.str "rest") (some (.int rest)) := .inl ⟨_, .inr "rest", .inl hb, rfl, rfl⟩
theorem bx_many (hb : H b = some (.dK (boxL g at' rest many great all))) : DGet H b (.str "many") (some (.int many)) := .inl ⟨_, .inr "many", .inl hb, rfl, rfl⟩
theorem bx_great (hb : H b = some (.dK (boxL g at' rest many great all))) : DGet H b (.str "great") (some (.bl great)) := .inl ⟨_, .inr "great", .inl hb, rfl, rfl⟩
theorem bx_all (hb : H b = some (.dK (boxL g at' rest many great all))) : DGet H b (.str "all") (some (.int all)) := .inl ⟨_, .inr "all", .inl hb, rfl, rfl⟩
theorem bp_at (hb : H b = some (.dK (boxL g at' rest many great all))) : DPut H b (.str "at") (.int x) (upd H b (.dK (boxL g x rest many great all))) := .inl ⟨_, .inr "at", hb, rfl, by show 6 < sizeLine; decide, rfl⟩
theorem bp_rest (hb : H b = some (.dK (boxL g at' rest many great all))) : DPut H b (.str "rest") (.int x) (upd H b (.dK (boxL g at' x many great all))) := .inl ⟨_, .inr "rest", hb, rfl, by show 6 < sizeLine; decide, rfl⟩
theorem bp_many (hb : H b = some (.dK (boxL g at' rest many great all))) : DPut H b (.str "many") (.int x) (upd H b (.dK (boxL g at' rest x great all))) := .inl ⟨_, .inr "many", hb, rfl, by show 6 < sizeLine; decide, rfl⟩
theorem bp_great (hb : H b = some (.dK (boxL g at' rest many great all))) : DPut H b (.str "great") (.bl y) (upd H b (.dK (boxL g at' rest many y all))) := .inl ⟨_, .inr "great", hb, rfl, by show 6 < sizeLine; decide, rfl⟩
theorem bp_all (hb : H b = some (.dK (boxL g at' rest many great all))) : DPut H b (.str "all") (.int x) (upd H b (.dK (boxL g at' rest many great x))) := .inl ⟨_, .inr "all", hb, rfl, by show 6 < sizeLine; decide, rfl⟩
end
def spMixd : Sp := fun vs H Q _ => ∃ i j : Int, vs = [.int i, .int j] ∧ ∀ r : Int, 0 ≤ r → r < 2147483399 → Q (.int r) H
def spBox (K : PySem.W.Frag) : Sp := fun vs H Q _ => ∃ (a : Addr) (ns : List Int), vs = [.ref a] ∧ SqL K H a (ns.map V.int) ∧ ∀ H' b g, Same H H' → BoxAt H' b g → Q (.ref b) H'
def spRefill : Sp := fun vs H Q _ => ∃ (b g : Addr), vs = [.ref b] ∧ BoxAt H b g ∧ ∀ H', BL [b] H H' → BoxAt H' b g → Q .non H'
def spDraw : Sp := fun vs H Q _ => ∃ (b g : Addr) (m : Int), vs = [.ref b, .int m] ∧ BoxAt H b g ∧ 0 < m ∧ m.natAbs < 2 ^ 200 ∧ ∀ H' r, BL [b] H H' → BoxAt H' b g → 0 ≤ r → r < m → Q (.int r) H'
section
variable {P : Program} {w : World} {K : PySem.W.Frag} {mg : Str → Option Value} {base : Heap}
theorem scMixd : FnScope ["number", "place"] ["number", "place"] (defScope sMixd) := ⟨rfl, rfl, rfl, by decide +kernel, rfl, by decide +kernel, by decide +kernel⟩
theorem ok_mixd {f : Addr} {fd : FuncData} {k : Nat} (F : Fun K "_law_mixed" "_law_mixed" sMixd f fd) (T : Tx mg) : FnOk P w K mg base CX0 (k + 1) f fd ["number", "place"] spMixd := by
  refine F.ok scMixd (fun vs H Q E h => ?_) (fun cdv A outer s H vs Q E hr h => ?_)
  · obtain ⟨i, j, rfl, _⟩ := h
    rfl
  · obtain ⟨i, j, rfl, q⟩ := h
    refine ⟨_, (pss_cons (ps_set (i := 0) scMixd.nd rfl (Or.inl rfl) (pe_op op_mod (pe_callTy call_int1 (by rfl) T.int_ (by decide +kernel) (pa_cons (pe_op op_mul (pe_op op_add (pe_op op_add (pv 0) (pe_op op_mul pe_int (pv 1))) pe_int) pe_int) pa_nil)) pe_int)) (pss_cons (ps_set (i := 0) scMixd.nd rfl (Or.inl rfl) (pe_op op_mod (pe_callTy call_int1 (by rfl) T.int_ (by decide +kernel) (pa_cons (pe_op op_mul (pv 0) (pe_op op_add (pe_op op_fdiv (pv 0) pe_int) pe_int)) pa_nil)) pe_int)) (pss_one (ps_ret (pe_op op_mod (pe_callTy call_int1 (by rfl) T.int_ (by decide +kernel) (pa_cons (pe_op op_mul (pv 0) (pe_op op_add (pe_op op_fdiv (pv 0) pe_int) pe_int)) pa_nil)) pe_int))))), ?_⟩
    refine ⟨_, rfl, _, rfl, _, _, rfl, rfl, .inl ⟨by decide, by decide⟩, _, _, rfl, rfl, _, _, rfl, rfl, _, _, rfl, rfl, .inr ⟨by decide, by decide⟩, .inl ⟨_, rfl, _, _, rfl, rfl, (by show (0 : Int) < 2147483647; decide), ?_⟩⟩
    generalize hn1 : ((i + 7919 * j + 1) * 48271 % 2147483647 : Int) = n1
    have r1 : 0 ≤ n1 ∧ n1 < 2147483647 := by
      rw [← hn1]
      exact mod_in (by decide)
    refine ⟨_, rfl, _, rfl, _, _, rfl, rfl, ⟨by decide, by decide⟩, _, _, rfl, rfl, _, _, rfl, rfl, .inl ⟨by omega, by omega⟩, .inl ⟨_, rfl, _, _, rfl, rfl, (by show (0 : Int) < 2147483647; decide), ?_⟩⟩
    generalize hn2 : (n1 * (n1 / 1009 + 69621) % 2147483647 : Int) = n2
    have r2 : 0 ≤ n2 ∧ n2 < 2147483647 := by
      rw [← hn2]
      exact mod_in (by decide)
    refine ⟨_, rfl, _, rfl, _, _, rfl, rfl, ⟨by decide, by decide⟩, _, _, rfl, rfl, _, _, rfl, rfl, .inl ⟨by omega, by omega⟩, .inl ⟨_, rfl, _, _, rfl, rfl, (by show (0 : Int) < 2147483399; decide), ?_⟩⟩
    exact q _ (mod_in (by decide)).1 (mod_in (by decide)).2
theorem scBox : FnScope ["script"] ["script"] (defScope sBox) := ⟨rfl, rfl, rfl, by decide +kernel, rfl, by decide +kernel, by decide +kernel⟩
theorem ok_box {f : Addr} {fd : FuncData} {k : Nat} (F : Fun K "_law_box" "_law_box" sBox f fd) (T : Tx mg) : FnOk P w K mg base CX0 (k + 1) f fd ["script"] (spBox K) := by
  refine F.ok scBox (fun vs H Q E h => ?_) (fun cdv A outer s H vs Q E hr h => ?_)
  · obtain ⟨a, ns, rfl, _⟩ := h
    rfl
  · obtain ⟨a, ns, rfl, hS, q⟩ := h
    refine ⟨_, (pss_one (ps_ret (pe_disp (pps_cons pe_str (pe_callTy call_list_of (by rfl) T.list_ (by decide +kernel) (pa_cons (pv 0) pa_nil)) (pps_cons pe_str pe_int (pps_cons pe_str pe_int (pps_cons pe_str pe_int (pps_cons pe_str pe_bl (pps_cons pe_str pe_int pps_nil)))))) (by rfl) (by rfl) (fun z => by cases z) (by decide)))), ?_⟩
    refine fun p np => ?_
    have s1 := same_upd (o := HO.dK []) np
    refine ⟨_, rfl, a, _, rfl, .inl (seqL s1 hS), fun l nl => ?_⟩
    have s2 := same_upd (o := HO.lst (ns.map V.int)) nl
    have ngp : l ≠ p := fun e => by rw [e, upd_same] at nl; cases nl
    refine ⟨s2 _ _ upd_same, boxL l 0 0 0 false 0, rfl, by show 6 ≤ 15; decide, ?_⟩
    refine q _ p l (same_put (s1.trans s2) np) ⟨ns, 0, 0, 0, 0, false, upd_same, ?_, by decide, by decide⟩
    rw [upd_ne ngp]
    exact upd_same
theorem scRefill : FnScope ["box", "cell"] ["box"] (defScope sRefill) := ⟨rfl, rfl, rfl, by decide +kernel, rfl, by decide +kernel, by decide +kernel⟩
theorem ok_refill {f : Addr} {fd : FuncData} {k : Nat} (F : Fun K "_law_refill" "_law_refill" sRefill f fd) (T : Tx mg) (cM : Cal P w K mg base (k + 1) "_law_mixed" ["number", "place"] spMixd) : FnOk P w K mg base CX0 (k + 2) f fd ["box"] spRefill := by
  refine F.ok scRefill (fun vs H Q E h => ?_) (fun cdv A outer s H vs Q E hr h => ?_)
  · obtain ⟨b, g, rfl, _⟩ := h
    rfl
  · obtain ⟨b, g, rfl, ⟨ns, at', rest, many, all, great, hb, hg, ha, hr0⟩, q⟩ := h
    have ngb : g ≠ b := BoxAt.ne ⟨ns, at', rest, many, all, great, hb, hg, ha, hr0⟩
    refine ⟨_, (pss_cons (ps_set (i := 1) scRefill.nd rfl (Or.inl rfl) (pe_dget (u1 hr) (pv 0) pe_str (fun _ _ => rfl))) (pss_cons (ps_if (pt_cmpR op_lt (pe_dget (u1 hr) (pv 0) pe_str (fun _ _ => rfl)) (pe_callB call_len_seq (by rfl) T.len_ PySem.boot_len (pa_cons (pe_dget (u1 hr) (pv 0) pe_str (fun _ _ => rfl)) pa_nil)) (nomark _)) (pss_one (ps_set (i := 1) scRefill.nd rfl (Or.inl rfl) (pe_callTy call_int1 (by rfl) T.int_ (by decide +kernel) (pa_cons (pe_ix ix_list (pe_dget (u1 hr) (pv 0) pe_str (fun _ _ => rfl)) (pe_dget (u1 hr) (pv 0) pe_str (fun _ _ => rfl)) (fun _ _ => rfl)) pa_nil)))) pss_nil) (pss_cons (ps_daug (u1 hr) (pv 0) pe_str pe_int in_add (fun _ _ _ => rfl)) (pss_cons (ps_dput (u1 hr) (pv 0) pe_str (pe_cmpR op_ge (pv 1) (pe_op op_pow pe_int pe_int) (nomark _)) rfl) (pss_cons (ps_dput (u1 hr) (pv 0) pe_str (pe_ifExp (pt_val (pe_dget (u1 hr) (pv 0) pe_str (fun _ _ => rfl))) (pv 1) (pe_c cM hr (by omega) (by rfl) (pa_cons (pe_op op_mod (pe_callTy call_int1 (by rfl) T.int_ (by decide +kernel) (pa_cons (pv 1) pa_nil)) pe_int) (pa_cons (pe_dget (u1 hr) (pv 0) pe_str (fun _ _ => rfl)) pa_nil)))) rfl) (pss_one (ps_dput (u1 hr) (pv 0) pe_str (pe_ifExp (pt_val (pe_dget (u1 hr) (pv 0) pe_str (fun _ _ => rfl))) pe_int pe_int) rfl))))))), ?_⟩
    refine seq_set ⟨_, rfl, b, _, rfl, bx_all hb, ?_⟩
    dsimp only
    refine seq_use (fun σ G => ∃ c : Int, σ = [some (.ref b), some (.int c)] ∧ G = H) ?_ (fun hrest => ?_)
    · rintro σ G ⟨c, rfl, rfl⟩
      refine ⟨_, rfl, b, _, rfl, bx_at hb, _, _, rfl, rfl, _, bp_at hb, ?_⟩
      have hb1 : (upd G b (.dK (boxL g (at' + 1) rest many great all))) b = some (.dK (boxL g (at' + 1) rest many great all)) := upd_same
      refine ⟨_, rfl, _, _, rfl, rfl, ⟨by decide, by decide, by decide⟩, _, _, rfl, rfl, _, rfl, b, _, rfl, bp_great hb1, ?_⟩
      rw [upd_upd]
      generalize hy : decide ((10 : Int) ^ (Int.toNat 18) ≤ c) = y
      have hb2 : (upd G b (.dK (boxL g (at' + 1) rest many y all))) b = some (.dK (boxL g (at' + 1) rest many y all)) := upd_same
      dsimp only
      refine seq_use (fun σ G2 => ∃ rs : Int, σ = [some (.ref b), some (.int c)] ∧ 0 ≤ rs ∧ G2 = upd G b (.dK (boxL g (at' + 1) rs many y all))) ?_ (fun hr2 => ?_)
      · rintro σ G2 ⟨rs, rfl, hrs, rfl⟩
        have hb3 : (upd G b (.dK (boxL g (at' + 1) rs many y all))) b = some (.dK (boxL g (at' + 1) rs many y all)) := upd_same
        have fin : ∀ mm : Int, Q .non (upd (upd G b (.dK (boxL g (at' + 1) rs many y all))) b (.dK (boxL g (at' + 1) rs mm y all))) := fun mm => by
          rw [upd_upd]
          exact q _ (.upd (by simp)) ⟨ns, at' + 1, rs, mm, all, y, upd_same, by rw [upd_ne ngb]; exact hg, by omega, hrs⟩
        refine ⟨_, rfl, b, _, rfl, bx_great hb3, _, rfl, ite2 (fun _ => ⟨_, rfl, b, _, rfl, bp_many hb3, fin _⟩) (fun _ => ⟨_, rfl, b, _, rfl, bp_many hb3, fin _⟩)⟩
      · refine ⟨_, rfl, b, _, rfl, bx_great hb2, _, rfl, ite2 (fun hc => ⟨_, rfl, _, rfl, b, _, rfl, bp_rest hb2, ?_⟩) (fun _ => ⟨_, rfl, .inl ⟨c, rfl, _, _, rfl, rfl, (by show (0 : Int) < 2147483647; decide), _, rfl, b, _, rfl, bx_at hb2, _, _, rfl, fun r r0 _ => ⟨_, rfl, b, _, rfl, bp_rest hb2, ?_⟩⟩⟩)⟩
        · rw [upd_upd]
          refine hr2 _ _ ⟨c, rfl, ?_, rfl⟩
          have h18 : (10 : Int) ^ (Int.toNat 18) ≤ c := of_decide_eq_true (hy.trans hc)
          have h0 : (0 : Int) ≤ (10 : Int) ^ (Int.toNat 18) := by decide
          omega
        · rw [upd_upd]
          exact hr2 _ _ ⟨r, rfl, r0, rfl⟩
    · refine ⟨_, rfl, b, _, rfl, bx_at hb, _, rfl, b, _, rfl, bx_cells hb, g, _, rfl, .inl (.of hg), _, _, rfl, rfl, _, rfl, ?_⟩
      refine ite2 (fun hl => ?_) (fun _ => hrest _ _ ⟨all, rfl, rfl⟩)
      have hl2 := of_decide_eq_true hl
      rw [List.length_map] at hl2
      obtain ⟨j, rfl⟩ : ∃ j : Nat, at' = j := ⟨at'.toNat, by omega⟩
      have hj : j < ns.length := by omega
      exact ⟨_, rfl, b, _, rfl, bx_cells hb, _, rfl, b, _, rfl, bx_at hb, g, _, _, .int ns[j], rfl, rfl, .of hg, atI_nat (by rw [List.getElem?_map, List.getElem?_eq_getElem hj]; rfl), .inl ⟨_, rfl, hrest _ _ ⟨ns[j], rfl, rfl⟩⟩⟩
theorem scDraw : FnScope ["box", "menu", "rest"] ["box", "menu"] (defScope sDraw) := ⟨rfl, rfl, rfl, by decide +kernel, rfl, by decide +kernel, by decide +kernel⟩
theorem ok_draw {f : Addr} {fd : FuncData} {k : Nat} (F : Fun K "_law_draw" "_law_draw" sDraw f fd) (T : Tx mg) (cM : Cal P w K mg base (k + 2) "_law_mixed" ["number", "place"] spMixd) (cR : Cal P w K mg base (k + 2) "_law_refill" ["box"] spRefill) : FnOk P w K mg base CX0 (k + 3) f fd ["box", "menu"] spDraw := by
  refine F.ok scDraw (fun vs H Q E h => ?_) (fun cdv A outer s H vs Q E hr h => ?_)
  · obtain ⟨b, g, m, rfl, _⟩ := h
    rfl
  · obtain ⟨b, g, m, rfl, hB, hm0, hm1, q⟩ := h
    refine ⟨_, (pss_cons (ps_if (pt_or (pt_cmpR op_eq (pe_dget (u1 hr) (pv 0) pe_str (fun _ _ => rfl)) pe_int (nomark _)) (pw_or1 (pt_and (pt_val (pe_dget (u1 hr) (pv 0) pe_str (fun _ _ => rfl))) (pw_and1 (pt_cmpR op_eq (pe_dget (u1 hr) (pv 0) pe_str (fun _ _ => rfl)) pe_int (nomark _)))))) (pss_one (ps_expr (pe_c cR hr (by omega) (by rfl) (pa_cons (pv 0) pa_nil)))) pss_nil) (pss_cons (ps_daug (u1 hr) (pv 0) pe_str pe_int in_sub (fun _ _ _ => rfl)) (pss_cons (ps_daug (u1 hr) (pv 0) pe_str pe_int in_add (fun _ _ _ => rfl)) (pss_cons (ps_set (i := 2) scDraw.nd rfl (Or.inl rfl) (pe_callTy call_int1 (by rfl) T.int_ (by decide +kernel) (pa_cons (pe_dget (u1 hr) (pv 0) pe_str (fun _ _ => rfl)) pa_nil))) (pss_cons (ps_if (pt_val (pe_dget (u1 hr) (pv 0) pe_str (fun _ _ => rfl))) (pss_cons (ps_dput (u1 hr) (pv 0) pe_str (pe_op op_fdivW (pv 2) (pv 1)) rfl) (pss_one (ps_ret (pe_op op_mod (pe_callTy call_int1 (by rfl) T.int_ (by decide +kernel) (pa_cons (pv 2) pa_nil)) (pv 1))))) pss_nil) (pss_cons (ps_dput (u1 hr) (pv 0) pe_str (pe_c cM hr (by omega) (by rfl) (pa_cons (pv 2) (pa_cons (pe_dget (u1 hr) (pv 0) pe_str (fun _ _ => rfl)) pa_nil))) rfl) (pss_one (ps_ret (pe_op op_mod (pe_callTy call_int1 (by rfl) T.int_ (by decide +kernel) (pa_cons (pe_op op_fdiv (pv 2) pe_int) pa_nil)) (pv 1)))))))))), ?_⟩
    refine seq_use (fun σ G => σ = [some (.ref b), some (.int m), none] ∧ BL [b] H G ∧ BoxAt G b g) ?_ (fun hrest => ?_)
    · rintro σ G ⟨rfl, bl, hBG⟩
      have ngb := hBG.ne
      obtain ⟨ns, at', rest, many, all, great, hb, hg, ha, hr0⟩ := hBG
      refine ⟨_, rfl, b, _, rfl, bx_many hb, _, _, rfl, rfl, _, bp_many hb, ?_⟩
      have hb1 : (upd G b (.dK (boxL g at' rest (many - 1) great all))) b = some (.dK (boxL g at' rest (many - 1) great all)) := upd_same
      refine ⟨_, rfl, b, _, rfl, bx_all hb1, _, _, rfl, rfl, _, bp_all hb1, ?_⟩
      rw [upd_upd]
      have hb2 : (upd G b (.dK (boxL g at' rest (many - 1) great (all + 1)))) b = some (.dK (boxL g at' rest (many - 1) great (all + 1))) := upd_same
      have fin : ∀ (rs v : Int), 0 ≤ rs → 0 ≤ v → v < m → Q (.int v) (upd (upd G b (.dK (boxL g at' rest (many - 1) great (all + 1)))) b (.dK (boxL g at' rs (many - 1) great (all + 1)))) := fun rs v h0 h1 h2 => by
        rw [upd_upd]
        exact q _ v (bl.trans (.upd (by simp))) ⟨ns, at', rs, many - 1, all + 1, great, upd_same, by rw [upd_ne ngb]; exact hg, ha, h0⟩ h1 h2
      refine ⟨_, rfl, b, _, rfl, bx_rest hb2, .inl ⟨rest, rfl, ?_⟩⟩
      refine ⟨_, rfl, b, _, rfl, bx_great hb2, _, rfl, ?_⟩
      refine ite2 (fun _ => ?_) (fun _ => ?_)
      · refine ⟨_, rfl, _, rfl, _, _, rfl, rfl, wide_div hm0 hm1 (by decide) (by decide), _, rfl, b, _, rfl, bp_rest hb2, ?_⟩
        exact ⟨_, rfl, .inl ⟨rest, rfl, _, rfl, _, _, rfl, rfl, hm0, fin _ _ (Int.ediv_nonneg hr0 (by omega)) (mod_in hm0).1 (mod_in hm0).2⟩⟩
      · refine ⟨_, rfl, _, rfl, b, _, rfl, bx_all hb2, _, _, rfl, fun r r0 _ => ⟨_, rfl, b, _, rfl, bp_rest hb2, ?_⟩⟩
        exact ⟨_, rfl, _, _, rfl, rfl, ⟨by decide, by decide⟩, .inl ⟨_, rfl, _, rfl, _, _, rfl, rfl, hm0, fin _ _ r0 (mod_in hm0).1 (mod_in hm0).2⟩⟩
    · obtain ⟨ns, at', rest, many, all, great, hb, hg, ha, hr0⟩ := id hB
      refine ⟨_, rfl, b, _, rfl, bx_many hb, rfl, _, rfl, ?_⟩
      refine ite2 (fun _ => ⟨_, rfl, b, g, rfl, hB, fun G bl hBG => hrest _ _ ⟨rfl, bl, hBG⟩⟩) (fun _ => ?_)
      refine ⟨_, rfl, b, _, rfl, bx_great hb, _, rfl, ?_⟩
      cases great with
      | false => exact iteF (hrest _ _ ⟨rfl, .refl, hB⟩)
      | true =>
        refine iteT ⟨_, rfl, b, _, rfl, bx_rest hb, rfl, _, rfl, ?_⟩
        exact ite2 (fun _ => ⟨_, rfl, b, g, rfl, hB, fun G bl hBG => hrest _ _ ⟨rfl, bl, hBG⟩⟩) (fun _ => hrest _ _ ⟨rfl, .refl, hB⟩)
end
end L2.My
end
section
set_option Elab.async false
set_option linter.all false
set_option maxRecDepth 100000
set_option maxHeartbeats 4000000
namespace L2.My
open PySem PySem.Spec PyProof.Rows
abbrev sBelow : Stmt := top 6
abbrev sWord : Stmt := top 9
/-! ### things of any kind: seen as deep as one likes, none the hand at b -/
/-- no int is greater -/
def maxI : Int := 10 ^ 40
def Sh0 (b : Addr) (H : Hp) (v : V) : Prop := (∃ t, ThT H v t) ∧ v ≠ .ref b ∧ (∀ z, v = .str z → z.length ≤ 5000) ∧ ∀ i, v = .int i → i ≤ maxI
def Sh (b : Addr) (H : Hp) : Nat → V → Prop
  | 0, v => Sh0 b H v
  | n + 1, v => Sh0 b H v ∧ ∀ a xs, v = .ref a → H a = some (.tup xs) → xs.length ≤ 5000 ∧ ∀ x ∈ xs, Sh b H n x
def Thg (b : Addr) (H : Hp) (v : V) : Prop := ∀ n, Sh b H n v
theorem ThT.stay {b : Addr} {H H' : Hp} {v : V} {t : String} (h : ThT H v t) (n : v ≠ .ref b) (s : BL [b] H H') : ThT H' v t := by
  cases h with
  | non => exact .non
  | bl c => exact .bl c
  | int i => exact .int i
  | str x => exact .str x
  | lst h => exact .lst (s _ _ (by simpa using fun e => n (by rw [e])) h)
  | tup h => exact .tup (s _ _ (by simpa using fun e => n (by rw [e])) h)
  | dct h => exact .dct (s _ _ (by simpa using fun e => n (by rw [e])) h)
theorem Sh0.bl {b : Addr} {H H' : Hp} {v : V} (h : Sh0 b H v) (s : BL [b] H H') : Sh0 b H' v := by
  obtain ⟨⟨t, h1⟩, h2, h3⟩ := h
  exact ⟨⟨t, h1.stay h2 s⟩, h2, h3⟩
theorem ThT.back {b : Addr} {H H' : Hp} {a : Addr} {t : String} (h : ThT H (.ref a) t) (n : V.ref a ≠ .ref b) (s : BL [b] H H') {xs : List V} (e : H' a = some (.tup xs)) : H a = some (.tup xs) := by
  have nb : a ∉ [b] := by simpa using fun e => n (by rw [e])
  cases h with
  | lst h => rw [s _ _ nb h] at e; cases e
  | tup h => rw [s _ _ nb h] at e; cases e; exact h
  | dct h => rw [s _ _ nb h] at e; cases e
theorem Sh.bl {b : Addr} {H H' : Hp} (s : BL [b] H H') : ∀ {n : Nat} {v : V}, Sh b H n v → Sh b H' n v
  | 0, v, h => Sh0.bl h s
  | n + 1, v, h => by
    refine ⟨h.1.bl s, fun a xs e ea => ?_⟩
    subst e
    obtain ⟨⟨t, h1⟩, h2, _⟩ := h.1
    obtain ⟨q1, q2⟩ := h.2 a xs rfl (h1.back h2 s ea)
    exact ⟨q1, fun x hx => Sh.bl s (q2 x hx)⟩
theorem Thg.bl {b : Addr} {H H' : Hp} {v : V} (h : Thg b H v) (s : BL [b] H H') : Thg b H' v := fun n => (h n).bl s
theorem Thg.same {b : Addr} {H H' : Hp} {v : V} (h : Thg b H v) (s : Same H H') : Thg b H' v := h.bl (.same s)
theorem Thg.th {b : Addr} {H : Hp} {v : V} (h : Thg b H v) : ∃ t, ThT H v t := (h 0).1
theorem Thg.len {b : Addr} {H : Hp} {z : Str} (h : Thg b H (.str z)) : z.length ≤ 5000 := (h 0).2.2.1 z rfl
theorem Thg.sub {b a : Addr} {H : Hp} {xs : List V} (h : Thg b H (.ref a)) (e : H a = some (.tup xs)) : xs.length ≤ 5000 ∧ ∀ x ∈ xs, Thg b H x := ⟨((h 1).2 a xs rfl e).1, fun x hx n => ((h (n + 1)).2 a xs rfl e).2 x hx⟩
theorem Thg.tup {b a : Addr} {H : Hp} {xs : List V} (e : H a = some (.tup xs)) (n : a ≠ b) (hl : xs.length ≤ 5000) (h : ∀ x ∈ xs, Thg b H x) : Thg b H (.ref a) := by
  have h0 : Sh0 b H (.ref a) := ⟨⟨_, .tup e⟩, fun z => n (V.ref.inj z), (fun z q => nomatch q), fun i q => nomatch q⟩
  intro k
  cases k with
  | zero => exact h0
  | succ k =>
    refine ⟨h0, fun a' ys q e' => ?_⟩
    cases q
    rw [e] at e'
    cases e'
    exact ⟨hl, fun x hx => h x hx k⟩
theorem Thg.lst {b a : Addr} {H : Hp} {xs : List V} (e : H a = some (.lst xs)) (n : a ≠ b) : Thg b H (.ref a) := by
  have h0 : Sh0 b H (.ref a) := ⟨⟨_, .lst e⟩, fun z => n (V.ref.inj z), (fun z q => nomatch q), fun i q => nomatch q⟩
  intro k
  cases k with
  | zero => exact h0
  | succ k =>
    refine ⟨h0, fun a' ys q e' => ?_⟩
    cases q
    rw [e] at e'
    cases e'
theorem Thg.dct {b a : Addr} {H : Hp} {kvs : List (Key × V)} (e : H a = some (.dK kvs)) (n : a ≠ b) : Thg b H (.ref a) := by
  have h0 : Sh0 b H (.ref a) := ⟨⟨_, .dct e⟩, fun z => n (V.ref.inj z), (fun z q => nomatch q), fun i q => nomatch q⟩
  intro k
  cases k with
  | zero => exact h0
  | succ k =>
    refine ⟨h0, fun a' ys q e' => ?_⟩
    cases q
    rw [e] at e'
    cases e'
theorem thg_flat {b : Addr} {H : Hp} {v : V} (h0 : Sh0 b H v) (h : ∀ a, v ≠ .ref a) : Thg b H v := by
  intro k
  cases k with
  | zero => exact h0
  | succ k => exact ⟨h0, fun a xs e _ => absurd e (h a)⟩
theorem Thg.non {b : Addr} {H : Hp} : Thg b H .non := thg_flat ⟨⟨_, .non⟩, (fun z => nomatch z), (fun z q => nomatch q), fun i q => nomatch q⟩ fun a z => nomatch z
theorem Thg.int {b : Addr} {H : Hp} (i : Int) (h : i ≤ maxI) : Thg b H (.int i) := thg_flat ⟨⟨_, .int i⟩, (fun z => nomatch z), (fun z q => nomatch q), fun j q => by cases q; exact h⟩ fun a z => nomatch z
theorem Thg.le {b : Addr} {H : Hp} {i : Int} (h : Thg b H (.int i)) : i ≤ maxI := (h 0).2.2.2 i rfl
theorem Thg.boo {b : Addr} {H : Hp} (i : Bool) : Thg b H (.bl i) := thg_flat ⟨⟨_, .bl i⟩, (fun z => nomatch z), (fun z q => nomatch q), fun i q => nomatch q⟩ fun a z => nomatch z
theorem Thg.str {b : Addr} {H : Hp} (z : Str) (h : z.length ≤ 5000) : Thg b H (.str z) := thg_flat ⟨⟨_, .str z⟩, (fun z => nomatch z), (fun y q => by cases q; exact h), fun i q => nomatch q⟩ fun a z => nomatch z
/-! ### the verdicts, read off the heap -/
def tupO : Option HO → Option (List V)
  | some (.tup xs) => some xs
  | _ => none
def tupOf (H : Hp) : V → Option (List V)
  | .ref a => tupO (H a)
  | _ => none
def signB (c : Nat) : Bool := decide (97 ≤ c) && decide (c ≤ 122)
def wordB (z : Str) : Bool := decide (1 ≤ z.length) && (decide (z.length ≤ 12) && z.cps.toList.all signB)
def wordV : V → Bool
  | .str z => wordB z
  | _ => false
theorem tupOf_at {H : Hp} {a : Addr} {xs : List V} (h : H a = some (.tup xs)) : tupOf H (.ref a) = some xs := by
  show tupO (H a) = _
  rw [h]
  rfl
theorem tupOf_lst {H : Hp} {a : Addr} {xs : List V} (h : H a = some (.lst xs)) : tupOf H (.ref a) = none := by
  show tupO (H a) = _
  rw [h]
  rfl
theorem tupOf_dct {H : Hp} {a : Addr} {xs : List (Key × V)} (h : H a = some (.dK xs)) : tupOf H (.ref a) = none := by
  show tupO (H a) = _
  rw [h]
  rfl
theorem tup_cases {H : Hp} {v : V} {t : String} (h : ThT H v t) : (∃ a xs, v = .ref a ∧ H a = some (.tup xs) ∧ tupOf H v = some xs ∧ t = "tuple") ∨ (tupOf H v = none ∧ instT t "tuple" = false) := by
  cases h with
  | non => exact .inr ⟨rfl, by decide⟩
  | bl c => exact .inr ⟨rfl, by decide⟩
  | int i => exact .inr ⟨rfl, by decide⟩
  | str x => exact .inr ⟨rfl, by decide⟩
  | lst h => exact .inr ⟨tupOf_lst h, by decide⟩
  | tup h => exact .inl ⟨_, _, rfl, h, tupOf_at h, rfl⟩
  | dct h => exact .inr ⟨tupOf_dct h, by decide⟩
theorem str_cases {H : Hp} {v : V} {t : String} (h : ThT H v t) : (∃ z, v = .str z ∧ t = "str") ∨ (wordV v = false ∧ instT t "str" = false) := by
  cases h with
  | str x => exact .inl ⟨x, rfl, rfl⟩
  | _ => exact .inr ⟨rfl, by decide⟩
theorem int_cases {H : Hp} {v : V} {t : String} {n : Int} (h : ThT H v t) : (∃ i, v = .int i ∧ t = "int") ∨ (∃ c, v = .bl c ∧ t = "bool") ∨ (belowV n v = false ∧ instT t "int" = false) := by
  cases h with
  | int i => exact .inl ⟨i, rfl, rfl⟩
  | bl c => exact .inr (.inl ⟨c, rfl, rfl⟩)
  | _ => exact .inr (.inr ⟨rfl, by decide⟩)
theorem tupOf_bl {b : Addr} {H H' : Hp} {v : V} (h : Thg b H v) (s : BL [b] H H') : tupOf H' v = tupOf H v := by
  obtain ⟨⟨t, h1⟩, h2, _⟩ := h 0
  cases h1 with
  | non => rfl
  | bl c => rfl
  | int i => rfl
  | str x => rfl
  | lst h' =>
    have e := s _ _ (by simpa using fun e => h2 (by rw [e])) h'
    rw [tupOf_lst h', tupOf_lst e]
  | tup h' =>
    have e := s _ _ (by simpa using fun e => h2 (by rw [e])) h'
    rw [tupOf_at h', tupOf_at e]
  | dct h' =>
    have e := s _ _ (by simpa using fun e => h2 (by rw [e])) h'
    rw [tupOf_dct h', tupOf_dct e]
theorem tupOf_sub {b : Addr} {H : Hp} {v : V} {xs : List V} (h : Thg b H v) (e : tupOf H v = some xs) : ∃ a, v = .ref a ∧ H a = some (.tup xs) ∧ xs.length ≤ 5000 ∧ ∀ x ∈ xs, Thg b H x := by
  obtain ⟨t, ht⟩ := h.th
  rcases tup_cases ht with ⟨a, ys, rfl, h1, h2, _⟩ | ⟨h1, _⟩
  · rw [h2] at e
    cases e
    obtain ⟨q1, q2⟩ := h.sub h1
    exact ⟨a, rfl, h1, q1, q2⟩
  · rw [h1] at e; cases e
theorem all_congr {α : Type} {p q : α → Bool} : ∀ {xs : List α}, (∀ x ∈ xs, p x = q x) → xs.all p = xs.all q
  | [], _ => rfl
  | x :: r, h => by
    rw [List.all_cons, List.all_cons, h x List.mem_cons_self, all_congr fun y hy => h y (List.mem_cons_of_mem _ hy)]
theorem range_all {α : Type} (p : α → Bool) (d : α) (xs : List α) : ((List.range xs.length).map fun i => p (xs.getD i d)).all id = xs.all p := by
  rw [List.all_map]
  induction xs with
  | nil => rfl
  | cons x r ih =>
    rw [List.length_cons, List.range_succ_eq_map, List.all_cons, List.all_cons, List.all_map]
    rw [← ih]
    rfl
/-! ### the judges -/
def spBelow : Sp := fun vs H Q _ => ∃ (b : Addr) (n : Int) (v : V), vs = [.int n, v] ∧ Thg b H v ∧ Q (.bl (belowV n v)) H
def spWord : Sp := fun vs H Q _ => ∃ (b : Addr) (v : V), vs = [v] ∧ Thg b H v ∧ ∀ H', Same H H' → Q (.bl (wordV v)) H'
section
variable {P : Program} {w : World} {K : PySem.W.Frag} {mg : Str → Option Value} {base : Heap}
theorem scBelow : FnScope ["bound", "thing"] ["bound", "thing"] (defScope sBelow) := ⟨rfl, rfl, rfl, by decide +kernel, rfl, by decide +kernel, by decide +kernel⟩
theorem ok_below {f : Addr} {fd : FuncData} {k : Nat} (F : Fun K "is_below" "is_below" sBelow f fd) (T : Tx mg) : FnOk P w K mg base CX0 (k + 1) f fd ["bound", "thing"] spBelow := by
  refine F.ok scBelow (fun vs H Q E h => ?_) (fun cdv A outer s H vs Q E hr h => ?_)
  · obtain ⟨b, n, v, rfl, _⟩ := h
    rfl
  · obtain ⟨b, n, v, rfl, hv, q⟩ := h
    obtain ⟨t, ht⟩ := hv.th
    refine ⟨_, (pss_cons (ps_if (pt_or (pt_not (pt_val (pe_callB call_isTh (by rfl) T.isi (by decide +kernel) (pa_cons (pv 1) (pa_cons (pe_bltn (v := .ty "int") (u := .type "int") (by rfl) T.int_ (by decide +kernel) rfl) pa_nil))))) (pw_or1 (pt_val (pe_callB call_isTh (by rfl) T.isi (by decide +kernel) (pa_cons (pv 1) (pa_cons (pe_bltn (v := .ty "bool") (u := .type "bool") (by rfl) T.bool_ (by decide +kernel) rfl) pa_nil)))))) (pss_one (ps_ret pe_bl)) pss_nil) (pss_one (ps_ret (pe_chain op_le op_lt pe_int (pv 1) (pv 0))))), ?_⟩
    refine ⟨_, rfl, _, "int", t, rfl, ht, by decide, _, rfl, ?_⟩
    rcases int_cases (n := n) ht with ⟨i, rfl, rfl⟩ | ⟨c, rfl, rfl⟩ | ⟨e1, e2⟩
    · refine iteF ⟨_, rfl, _, "bool", _, rfl, .int i, by decide, _, rfl, iteF ?_⟩
      refine ⟨_, rfl, _, _, rfl, rfl, _, rfl, ?_⟩
      by_cases h0 : 0 ≤ i
      · rw [decide_eq_true h0]
        refine iteT ⟨_, rfl, _, _, rfl, rfl, ?_⟩
        have e : belowV n (.int i) = decide (i < n) := by
          show decide (0 ≤ i ∧ i < n) = _
          simp [h0]
        rw [e] at q
        exact q
      · rw [decide_eq_false h0]
        refine iteF ?_
        have e : belowV n (.int i) = false := decide_eq_false fun z => h0 z.1
        rw [e] at q
        exact q
    · exact iteF ⟨_, rfl, _, "bool", _, rfl, .bl c, by decide, _, rfl, iteT q⟩
    · rw [e2]
      rw [e1] at q
      exact iteT q
theorem scWord : FnScope ["thing", "sign"] ["thing"] (defScope sWord) := ⟨rfl, rfl, rfl, by decide +kernel, rfl, by decide +kernel, by decide +kernel⟩
theorem ok_word {f : Addr} {fd : FuncData} {k : Nat} (F : Fun K "is_word" "is_word" sWord f fd) (T : Tx mg) : FnOk P w K mg base CX0 (k + 1) f fd ["thing"] spWord := by
  obtain ⟨tm, hm⟩ := T.ml
  refine F.ok scWord (fun vs H Q E h => ?_) (fun cdv A outer s H vs Q E hr h => ?_)
  · obtain ⟨b, v, rfl, _⟩ := h
    rfl
  · obtain ⟨b, v, rfl, hv, q⟩ := h
    obtain ⟨t, ht⟩ := hv.th
    refine ⟨_, (pss_cons (ps_if (pt_or (pt_not (pt_val (pe_callB call_isTh (by rfl) T.isi (by decide +kernel) (pa_cons (pv 0) (pa_cons (pe_bltn (v := .ty "str") (u := .type "str") (by rfl) T.str_ (by decide +kernel) rfl) pa_nil))))) (pw_or1 (pt_not (pt_chain op_le op_le pe_int (pe_callB call_len_str (by rfl) T.len_ PySem.boot_len (pa_cons (pv 0) pa_nil)) (pe_glob (v := .int 12) (by rfl) hm ⟨_, rfl⟩))))) (pss_one (ps_ret pe_bl)) pss_nil) (pss_one (ps_ret (pe_callB (cr_all rfl) (by rfl) T.all_ (by decide +kernel) (pa_cons (pe_lc (own := [("sign", 1)]) (g := gName 1) rfl scWord.nd (pi_str (pv 0)) (blkOk_by (N := ["thing", "sign"]) (sc := defScope sWord) (by decide +kernel)) (fun _ _ _ _ _ => pg_name (i := 1) scWord.nd rfl (Or.inl rfl)) (fun _ _ _ _ _ => pts_nil) (fun _ _ _ _ _ => (pe_chain op_le_str op_le_str pe_str (pv 1) pe_str))) pa_nil))))), ?_⟩
    refine ⟨_, rfl, _, "str", t, rfl, ht, by decide, _, rfl, ?_⟩
    rcases str_cases ht with ⟨z, rfl, rfl⟩ | ⟨e1, e2⟩
    · have ls : z.length ≤ sizeLine := Nat.le_trans hv.len (by decide)
      refine iteF ⟨_, rfl, z, rfl, ls, _, _, rfl, rfl, _, rfl, ?_⟩
      by_cases h1 : 1 ≤ z.length
      · rw [decide_eq_true (by omega)]
        refine iteT ⟨_, _, rfl, rfl, _, rfl, ?_⟩
        by_cases h2 : z.length ≤ 12
        · rw [decide_eq_true (by omega)]
          refine iteF ?_
          refine ⟨_, rfl, _, rfl, fun D hD => ?_⟩
          refine lcP walk_str (fun i => V.bl (signB (z.cps.toList.getD i 0))) (Nat.lt_of_le_of_lt (show z.cps.size ≤ 12 from h2) (by decide)) hD (fun _ _ => trivial) ?_ ?_
          · rintro i y H1 H2 Q' hi sm ⟨rfl, c, hc, rfl⟩ hq
            have hcm : z.cps.toList.getD i 0 = c := by
              rw [← Array.getElem?_toList] at hc
              rw [List.getD_eq_getElem?_getD, hc]
              rfl
            rw [hcm] at hq
            have e1 : (⟨#[c]⟩ : Str).cps.toList = [c] := rfl
            have e2 : (("a" : Str).cps.toList) = [97] := by decide +kernel
            have e3 : (("z" : Str).cps.toList) = [122] := by decide +kernel
            refine ⟨rfl, _, rfl, _, _, rfl, rfl, _, rfl, ?_⟩
            rw [e1, e2, lt1]
            by_cases c1 : 97 ≤ c
            · rw [decide_eq_false (show ¬ c < 97 by omega)]
              refine iteT ⟨_, _, rfl, rfl, ?_⟩
              rw [e1, e3, lt1]
              have e : signB c = !decide (122 < c) := by
                unfold signB
                rw [decide_eq_true c1, Bool.true_and]
                by_cases c2 : c ≤ 122
                · rw [decide_eq_true c2, decide_eq_false (by omega)]; rfl
                · rw [decide_eq_false c2, decide_eq_true (by omega)]; rfl
              rw [e] at hq
              exact hq _ (Same.refl _)
            · rw [decide_eq_true (show c < 97 by omega)]
              have e : signB c = false := by
                unfold signB
                rw [decide_eq_false c1]; rfl
              rw [e] at hq
              exact iteF (hq _ (Same.refl _))
          · intro H' sm hd
            refine ⟨D, (List.range z.cps.size).map fun i => signB (z.cps.toList.getD i 0), rfl, .inl (.inl (by rw [hd, List.map_map]; rfl)), ?_⟩
            have e := range_all signB 0 z.cps.toList
            rw [Array.length_toList] at e
            rw [e]
            have e4 : wordV (.str z) = z.cps.toList.all signB := by
              show wordB z = _
              unfold wordB
              rw [decide_eq_true h1, decide_eq_true h2]
              rfl
            rw [e4] at q
            exact q _ sm
        · rw [decide_eq_false (by omega)]
          have e4 : wordV (.str z) = false := by
            show wordB z = _
            unfold wordB
            rw [decide_eq_false h2]
            simp
          rw [e4] at q
          exact iteT (q _ (Same.refl _))
      · rw [decide_eq_false (by omega)]
        have e4 : wordV (.str z) = false := by
          show wordB z = _
          unfold wordB
          rw [decide_eq_false h1]
          rfl
        rw [e4] at q
        exact iteF ⟨_, rfl, iteT (q _ (Same.refl _))⟩
    · rw [e2]
      rw [e1] at q
      exact iteT (q _ (Same.refl _))
end
end L2.My
end
section
set_option Elab.async false
set_option linter.all false
set_option maxRecDepth 100000
set_option maxHeartbeats 4000000
/-! The judges' verdicts, read off the heap; the small ones. -/
namespace L2.My
open PySem PySem.Spec PyProof.Rows
abbrev sNumb : Stmt := top 10
abbrev sAsc : Stmt := top 11
abbrev sPair : Stmt := top 14
abbrev sMemb : Stmt := top 15
theorem lt_un {k : Nat} {A : Around} (r : Room k A) : A.units < cLine := by have := r.un; omega
theorem u2 {k : Nat} {A : Around} (h : Room k A) : A.units + 2 < cLine := by have := h.un; omega
theorem u64 {k : Nat} {A : Around} (h : Room k A) : A.units + 64 < cLine := by have := h.un; omega
def iV : V → Nat
  | .int i => i.toNat
  | _ => 0
def intV : V → Int
  | .int i => i
  | _ => 0
def numV : V → Bool
  | .int i => decide (0 ≤ i)
  | _ => false
def notNon : V → Bool
  | .non => false
  | _ => true
def pairB (H : Hp) (v : V) : Bool := match tupOf H v with
  | some [_, _] => true
  | _ => false
def memB (H : Hp) (v : V) : Bool := match tupOf H v with
  | some [x, y] => wordV x && numV y
  | _ => false
def nameV (H : Hp) (v : V) : Str := match tupOf H v with
  | some (.str z :: _) => z
  | _ => ""
def leavesB (H : Hp) (h : Nat) (v : V) : Bool := match tupOf H v with
  | some xs => decide (xs.length = 2 ^ h) && ((xs.filter notNon).all (memB H) && decide (((xs.filter notNon).map (nameV H)).Nodup))
  | none => false
def nodeB (H : Hp) (h : Nat) (v : V) : Bool := match tupOf H v with
  | some [x, y] => belowV ((h : Int) + 1) x && belowV ((2 : Int) ^ (h - iV x)) y
  | _ => false
/-- the two numbers of a node -/
def nodI (H : Hp) (v : V) : List Int := match tupOf H v with
  | some xs => xs.map intV
  | none => []
def levV (H : Hp) (v : V) : Nat := match tupOf H v with
  | some (x :: _) => iV x
  | _ => 0
def atV (H : Hp) (v : V) : Nat := match tupOf H v with
  | some (_ :: y :: _) => iV y
  | _ => 0
def ascBy {α : Type} (lt : α → α → Bool) : List α → Bool
  | [] => true
  | [_] => true
  | f :: g :: r => lt f g && ascBy lt (g :: r)
def ltI (i j : Int) : Bool := decide (i < j)
def asideB (H : Hp) (ls : List V) (lev at' : Nat) (v : V) : Bool := match tupOf H v with
  | some xs => xs.all (belowV (ls.length : Int)) && (ascBy ltI (xs.map intV) && xs.all fun x => decide (iV x / 2 ^ lev = at') && notNon (ls.getD (iV x) .non))
  | none => false
def keptB (H : Hp) (h : Nat) (ls : List V) (v : V) : Bool := match tupOf H v with
  | some [n, l, a] => nodeB H h n && (decide (levV H n ≠ 0) && (numV l && asideB H ls (levV H n) (atV H n) a))
  | _ => false
/-- a row's node -/
def rowI (H : Hp) (v : V) : List Int := match tupOf H v with
  | some (n :: _) => nodI H n
  | _ => []
def nodesB (H : Hp) (h : Nat) (ls : List V) (v : V) : Bool := match tupOf H v with
  | some xs => xs.all (keptB H h ls) && ascBy HT.lexLt (xs.map (rowI H))
  | none => false
theorem ascBy_all {α : Type} (lt : α → α → Bool) (d : α) : ∀ (fs : List α), ((List.range (fs.length - 1)).map fun i => lt (fs.getD i d) (fs.getD (i + 1) d)).all id = ascBy lt fs
  | [] => rfl
  | [_] => rfl
  | f :: g :: r => by
    have ih := ascBy_all lt d (g :: r)
    have e : (f :: g :: r).length - 1 = ((g :: r).length - 1) + 1 := by simp
    rw [e, List.range_succ_eq_map, List.map_cons, List.all_cons, List.map_map]
    show (lt f g && _) = (lt f g && ascBy lt (g :: r))
    rw [← ih]
    rfl
theorem pairB_at {H : Hp} {v : V} {xs : List V} (h : tupOf H v = some xs) : pairB H v = decide (V.int (xs.length : Nat) = V.int 2) := by
  unfold pairB
  rw [h, dec_int]
  match xs with
  | [] => rfl
  | [_] => rfl
  | [_, _] => rfl
  | _ :: _ :: _ :: r =>
    show false = _
    symm
    rw [beq_eq_false_iff_ne]
    simp only [List.length_cons]
    omega
theorem pairB_no {H : Hp} {v : V} (h : tupOf H v = none) : pairB H v = false := by unfold pairB; rw [h]
theorem pair_of {b : Addr} {H : Hp} {v : V} (t : Thg b H v) (h : pairB H v = true) : ∃ a x y, v = .ref a ∧ H a = some (.tup [x, y]) ∧ tupOf H v = some [x, y] ∧ Thg b H x ∧ Thg b H y := by
  cases e : tupOf H v with
  | none => rw [pairB_no e] at h; cases h
  | some xs =>
    obtain ⟨a, rfl, ha, _, q⟩ := tupOf_sub t e
    rw [pairB_at e, dec_int, beq_iff_eq] at h
    match xs, q, ha, h with
    | [x, y], q, ha, _ => exact ⟨a, x, y, rfl, ha, rfl, q x (by simp), q y (by simp)⟩
    | [], _, _, h => simp at h
    | [_], _, _, h => simp at h
    | _ :: _ :: _ :: r, _, _, h => simp only [List.length_cons] at h; omega
theorem memB_no {H : Hp} {v : V} (h : pairB H v = false) : memB H v = false := by
  unfold pairB at h
  unfold memB
  split <;> simp_all
theorem memB_at {H : Hp} {v x y : V} (h : tupOf H v = some [x, y]) : memB H v = (wordV x && numV y) := by unfold memB; rw [h]
def spNumb : Sp := fun vs H Q _ => ∃ (b : Addr) (v : V), vs = [v] ∧ Thg b H v ∧ Q (.bl (numV v)) H
def spPair : Sp := fun vs H Q _ => ∃ (b : Addr) (v : V), vs = [v] ∧ Thg b H v ∧ Q (.bl (pairB H v)) H
def spMemb : Sp := fun vs H Q _ => ∃ (b : Addr) (v : V), vs = [v] ∧ Thg b H v ∧ ∀ H', Same H H' → Q (.bl (memB H v)) H'
def spAsc : Sp := fun vs H Q _ => ∃ (a : Addr) (xs : List V), vs = [.ref a] ∧ (H a = some (.lst xs) ∨ H a = some (.tup xs)) ∧ xs.length ≤ 5000 ∧
  ((∃ ns : List Int, xs = ns.map V.int ∧ ∀ H', Same H H' → Q (.bl (ascBy ltI ns)) H') ∨
   ∃ (as : List Addr) (ps : List (List Int)), xs = as.map .ref ∧ Paired (fun a p => H a = some (.tup (p.map V.int))) as ps ∧ ∀ H', Same H H' → Q (.bl (ascBy HT.lexLt ps)) H')
def rLtIT (K : PySem.W.Frag) : R2 := fun x y H Q => rI0 (fun i j => .bl (decide (i < j))) x y H Q ∨ rLtT K x y H Q
theorem op_ltIT {X : Cx} (hu : X.A.units < cLine) : OpR X (compareOp .Lt) (rLtIT X.K) := by
  intro pins s σ H x y v u Q I rx ry h
  rcases h with h | h
  · exact op_lt pins s σ H x y v u Q I rx ry h
  · exact op_ltT hu pins s σ H x y v u Q I rx ry h
theorem num_cases {H : Hp} {v : V} {t : String} (h : ThT H v t) : (∃ i, v = .int i ∧ t = "int") ∨ (∃ c, v = .bl c ∧ t = "bool") ∨ (numV v = false ∧ instT t "int" = false) := by
  cases h with
  | int i => exact .inl ⟨i, rfl, rfl⟩
  | bl c => exact .inr (.inl ⟨c, rfl, rfl⟩)
  | _ => exact .inr (.inr ⟨rfl, by decide⟩)
section
variable {P : Program} {w : World} {K : PySem.W.Frag} {mg : Str → Option Value} {base : Heap}
theorem scNumb : FnScope ["thing"] ["thing"] (defScope sNumb) := ⟨rfl, rfl, rfl, by decide +kernel, rfl, by decide +kernel, by decide +kernel⟩
theorem ok_numb {f : Addr} {fd : FuncData} {k : Nat} (F : Fun K "is_number" "is_number" sNumb f fd) (T : Tx mg) : FnOk P w K mg base CX0 (k + 1) f fd ["thing"] spNumb := by
  refine F.ok scNumb (fun vs H Q E h => ?_) (fun cdv A outer s H vs Q E hr h => ?_)
  · obtain ⟨b, v, rfl, _⟩ := h
    rfl
  · obtain ⟨b, v, rfl, hv, q⟩ := h
    obtain ⟨t, ht⟩ := hv.th
    refine ⟨_, (pss_one (ps_ret (pe_and (pe_callB call_isTh (by rfl) T.isi (by decide +kernel) (pa_cons (pv 0) (pa_cons (pe_bltn (v := .ty "int") (u := .type "int") (by rfl) T.int_ (by decide +kernel) rfl) pa_nil))) (pe_and (pe_not (pe_callB call_isTh (by rfl) T.isi (by decide +kernel) (pa_cons (pv 0) (pa_cons (pe_bltn (v := .ty "bool") (u := .type "bool") (by rfl) T.bool_ (by decide +kernel) rfl) pa_nil)))) (pe_one (pe_cmpR op_ge (pv 0) pe_int (nomark _))))))), ?_⟩
    refine ⟨_, rfl, _, "int", t, rfl, ht, by decide, _, rfl, ?_⟩
    rcases num_cases ht with ⟨i, rfl, rfl⟩ | ⟨c, rfl, rfl⟩ | ⟨e1, e2⟩
    · exact iteT ⟨_, rfl, _, "bool", _, rfl, .int i, by decide, _, rfl, _, rfl, iteT ⟨_, rfl, _, _, rfl, rfl, q⟩⟩
    · exact iteT ⟨_, rfl, _, "bool", _, rfl, .bl c, by decide, _, rfl, _, rfl, iteF q⟩
    · rw [e2]
      rw [e1] at q
      exact iteF q
theorem scPair : FnScope ["thing"] ["thing"] (defScope sPair) := ⟨rfl, rfl, rfl, by decide +kernel, rfl, by decide +kernel, by decide +kernel⟩
theorem ok_pair {f : Addr} {fd : FuncData} {k : Nat} (F : Fun K "is_pair" "is_pair" sPair f fd) (T : Tx mg) : FnOk P w K mg base CX0 (k + 1) f fd ["thing"] spPair := by
  refine F.ok scPair (fun vs H Q E h => ?_) (fun cdv A outer s H vs Q E hr h => ?_)
  · obtain ⟨b, v, rfl, _⟩ := h
    rfl
  · obtain ⟨b, v, rfl, hv, q⟩ := h
    obtain ⟨t, ht⟩ := hv.th
    refine ⟨_, (pss_one (ps_ret (pe_and (pe_callB call_isTh (by rfl) T.isi (by decide +kernel) (pa_cons (pv 0) (pa_cons (pe_bltn (v := .ty "tuple") (u := .type "tuple") (by rfl) T.tuple_ (by decide +kernel) rfl) pa_nil))) (pe_one (pe_cmpR op_eq (pe_callB call_len_seq (by rfl) T.len_ PySem.boot_len (pa_cons (pv 0) pa_nil)) pe_int (nomark _)))))), ?_⟩
    refine ⟨_, rfl, _, "tuple", t, rfl, ht, by decide, _, rfl, ?_⟩
    rcases tup_cases ht with ⟨a, xs, rfl, hx, e, rfl⟩ | ⟨e1, e2⟩
    · refine iteT ⟨_, rfl, a, xs, rfl, .inr (.of hx), rfl, ?_⟩
      rw [pairB_at e] at q
      exact q
    · rw [e2]
      rw [pairB_no e1] at q
      exact iteF q
theorem scMemb : FnScope ["thing"] ["thing"] (defScope sMemb) := ⟨rfl, rfl, rfl, by decide +kernel, rfl, by decide +kernel, by decide +kernel⟩
theorem ok_memb {f : Addr} {fd : FuncData} {k : Nat} (F : Fun K "is_member" "is_member" sMemb f fd) (T : Tx mg) (cP : Cal P w K mg base (k + 1) "is_pair" ["thing"] spPair) (cW : Cal P w K mg base (k + 1) "is_word" ["thing"] spWord) (cN : Cal P w K mg base (k + 1) "is_number" ["thing"] spNumb) : FnOk P w K mg base CX0 (k + 2) f fd ["thing"] spMemb := by
  refine F.ok scMemb (fun vs H Q E h => ?_) (fun cdv A outer s H vs Q E hr h => ?_)
  · obtain ⟨b, v, rfl, _⟩ := h
    rfl
  · obtain ⟨b, v, rfl, hv, q⟩ := h
    refine ⟨_, (pss_one (ps_ret (pe_and (pe_c cP hr (by omega) (by rfl) (pa_cons (pv 0) pa_nil)) (pe_and (pe_c cW hr (by omega) (by rfl) (pa_cons (pe_ix ix_tup (pv 0) pe_int (fun _ _ => rfl)) pa_nil)) (pe_one (pe_c cN hr (by omega) (by rfl) (pa_cons (pe_ix ix_tup (pv 0) pe_int (fun _ _ => rfl)) pa_nil))))))), ?_⟩
    refine ⟨_, rfl, b, v, rfl, hv, _, rfl, ?_⟩
    cases hp : pairB H v with
    | false =>
      rw [memB_no hp] at q
      exact iteF (q _ (Same.refl _))
    | true =>
      obtain ⟨a, x, y, rfl, ha, e, tx, ty⟩ := pair_of hv hp
      rw [memB_at e] at q
      refine iteT ⟨_, rfl, a, _, _, x, rfl, rfl, .of ha, atI_nat (j := 0) rfl, b, x, rfl, tx, fun H1 s1 => ⟨_, rfl, ?_⟩⟩
      cases hw : wordV x with
      | false =>
        rw [hw] at q
        exact iteF (q _ s1)
      | true =>
        rw [hw] at q
        exact iteT ⟨_, rfl, a, _, _, y, rfl, rfl, .of (s1 _ _ ha), atI_nat (j := 1) rfl, b, y, rfl, ty.same s1, q _ s1⟩
theorem scAsc : FnScope ["things", "at"] ["things"] (defScope sAsc) := ⟨rfl, rfl, rfl, by decide +kernel, rfl, by decide +kernel, by decide +kernel⟩
theorem ok_asc {f : Addr} {fd : FuncData} {k : Nat} (F : Fun K "ascends" "ascends" sAsc f fd) (T : Tx mg) : FnOk P w K mg base CX0 (k + 1) f fd ["things"] spAsc := by
  refine F.ok scAsc (fun vs H Q E h => ?_) (fun cdv A outer s H vs Q E hr h => ?_)
  · obtain ⟨a, xs, rfl, _⟩ := h
    rfl
  · refine ⟨_, (pss_one (ps_ret (pe_callB (cr_all rfl) (by rfl) T.all_ (by decide +kernel) (pa_cons (pe_lc (own := [("at", 1)]) (g := gName 1) (te := tOp (rLtIT K) (tOp (rIx K) (tVar 0) (tVar 1)) (tOp (rIx K) (tVar 0) (tOp (rI0 fun i j => .int (i + j)) (tVar 1) (tC (.int 1))))) rfl scAsc.nd (pi_range1 (by rfl) T.range_ (pa_cons (pe_op op_sub (pe_callB call_len_seq (by rfl) T.len_ PySem.boot_len (pa_cons (pv 0) pa_nil)) pe_int) pa_nil)) (blkOk_by (N := ["things", "at"]) (sc := defScope sAsc) (by decide +kernel)) (fun _ _ _ _ _ => pg_name (i := 1) scAsc.nd rfl (Or.inl rfl)) (fun _ _ _ _ _ => pts_nil) (fun _ _ _ _ _ => (pe_cmpR (op_ltIT (lt_un hr)) (pe_ix ix_seq (pv 0) (pv 1) (fun _ _ => rfl)) (pe_ix ix_seq (pv 0) (pe_op op_add (pv 1) pe_int) (fun _ _ => rfl)) (nomark _)))) pa_nil)))), ?_⟩
    obtain ⟨a, xs, rfl, ha, hl, h⟩ := h
    have ix : ∀ {G : Hp} {j : Int} {v : V} {Q : VK}, Same H G → atI xs j = some v → Q v G → rIx K (.ref a) (.int j) G Q := fun {G j v Q} sm e q => by
      rcases ha with ha | ha
      · exact .inl ⟨a, xs, j, v, rfl, rfl, .of (sm _ _ ha), e, q⟩
      · exact .inr (.inl ⟨a, xs, j, v, rfl, rfl, .of (sm _ _ ha), e, q⟩)
    have sq : SqL K H a xs ∨ SqT K H a xs := ha.elim (fun h => .inl (.of h)) fun h => .inr (.of h)
    refine ⟨_, rfl, a, _, rfl, sq, _, _, rfl, rfl, ?_⟩
    refine ⟨_, rfl, by omega, by omega, fun D hD => ?_⟩
    have hn : ((xs.length : Nat) - 1 : Int).toNat = xs.length - 1 := by omega
    rw [hn]
    rcases h with ⟨ns, rfl, q⟩ | ⟨as, ps, rfl, hp, q⟩
    · rw [List.length_map] at *
      refine lcP (walk_range (lo := 0)) (fun i => V.bl (ltI (ns.getD i 0) (ns.getD (i + 1) 0))) (Nat.lt_of_le_of_lt (show ns.length - 1 ≤ 5000 by omega) (by decide)) hD (fun _ _ => trivial) ?_ ?_
      · rintro i y H3 H4 Q' hi sm ⟨rfl, rfl⟩ hq
        have e1 : ns[i]? = some ns[i] := List.getElem?_eq_getElem (by omega)
        have e2 : ns[i + 1]? = some ns[i + 1] := List.getElem?_eq_getElem (by omega)
        refine ⟨rfl, _, rfl, _, rfl, ix sm (v := .int ns[i]) (by rw [Int.zero_add]; exact atI_nat (by rw [List.getElem?_map, e1]; rfl)) ?_⟩
        refine ⟨_, rfl, _, rfl, _, _, rfl, rfl, ix sm (v := .int ns[i + 1]) (by rw [Int.zero_add]; exact atI_nat (j := i + 1) (by rw [List.getElem?_map, e2]; rfl)) (.inl ⟨_, _, rfl, rfl, ?_⟩)⟩
        have z1 : ns.getD i 0 = ns[i] := by rw [List.getD_eq_getElem?_getD, e1]; rfl
        have z2 : ns.getD (i + 1) 0 = ns[i + 1] := by rw [List.getD_eq_getElem?_getD, e2]; rfl
        rw [z1, z2] at hq
        exact hq _ (Same.refl _)
      · intro H' sm hd
        refine ⟨D, (List.range (ns.length - 1)).map fun i => ltI (ns.getD i 0) (ns.getD (i + 1) 0), rfl, .inl (.inl (by rw [hd, List.map_map]; rfl)), ?_⟩
        rw [ascBy_all]
        exact q _ sm
    · have le := Paired.len hp
      rw [List.length_map] at hl
      have hl2 : ps.length ≤ 5000 := by omega
      rw [List.length_map, le]
      refine lcP (walk_range (lo := 0)) (fun i => V.bl (HT.lexLt (ps.getD i []) (ps.getD (i + 1) []))) (Nat.lt_of_le_of_lt (show ps.length - 1 ≤ 5000 by omega) (by decide)) hD (fun _ _ => trivial) ?_ ?_
      · rintro i y H3 H4 Q' hi sm ⟨rfl, rfl⟩ hq
        have e1 : as[i]? = some (as[i]'(by omega)) := List.getElem?_eq_getElem (by omega)
        have e2 : as[i + 1]? = some (as[i + 1]'(by omega)) := List.getElem?_eq_getElem (by omega)
        obtain ⟨f1, g1, r1⟩ := Paired.at' hp e1
        obtain ⟨f2, g2, r2⟩ := Paired.at' hp e2
        refine ⟨rfl, _, rfl, _, rfl, ix sm (v := .ref (as[i]'(by omega))) (by rw [Int.zero_add]; exact atI_nat (by rw [List.getElem?_map, e1]; rfl)) ?_⟩
        refine ⟨_, rfl, _, rfl, _, _, rfl, rfl, ix sm (v := .ref (as[i + 1]'(by omega))) (by rw [Int.zero_add]; exact atI_nat (j := i + 1) (by rw [List.getElem?_map, e2]; rfl)) (.inr ⟨_, _, f1, f2, rfl, rfl, .of (sm _ _ r1), .of (sm _ _ r2), ?_⟩)⟩
        have z1 : ps.getD i [] = f1 := by rw [List.getD_eq_getElem?_getD, g1]; rfl
        have z2 : ps.getD (i + 1) [] = f2 := by rw [List.getD_eq_getElem?_getD, g2]; rfl
        rw [z1, z2] at hq
        exact hq _ (Same.refl _)
      · intro H' sm hd
        refine ⟨D, (List.range (ps.length - 1)).map fun i => HT.lexLt (ps.getD i []) (ps.getD (i + 1) []), rfl, .inl (.inl (by rw [hd, List.map_map]; rfl)), ?_⟩
        rw [ascBy_all]
        exact q _ sm
end
end L2.My
end
section
set_option Elab.async false
set_option linter.all false
set_option maxRecDepth 100000
set_option maxHeartbeats 4000000
/-! is_leaves, is_node. -/
namespace L2.My
open PySem PySem.Spec PyProof.Rows
abbrev sLeav : Stmt := top 16
abbrev sNode : Stmt := top 17
abbrev rNotN : R2 := fun x y H Q => y = .non ∧ Q (.bl (!decide (x = .non))) H
abbrev rLenS (K : PySem.W.Frag) : List V → Hp → VK → Prop := fun xs H Q => ∃ p ys, xs = [V.ref p] ∧ (SqL K H p ys ∨ SqT K H p ys) ∧ Q (V.int ys.length) H
section
variable {J : It} {n : Nat} {G : Hp → Prop} {Y : Nat → Hp → V → Hp → Prop}
theorem dcK_it (w : Walk J n G Y) {g : TG} {tt : TT} {tk tv : TE} {vs : List Nat} {σ : St} {H1 : Hp} {D : Addr} {Qd : Hp → Prop} (Pv : Nat → Hp → Prop) (h0 : Pv 0 (upd H1 D (.dK []))) (hG : ∀ i H, i ≤ n → Pv i H → G H)
    (hs : ∀ i x H H', i < n → Pv i H → Y i H x H' → g x (wipe σ vs) H' fun σ2 H2 => wipe σ2 vs = wipe σ vs ∧ tt σ2 H2 fun b H3 =>
      if b = true then tk σ2 H3 fun y H4 => tv σ2 H4 fun z H5 => ∃ kvs k, y = kV k ∧ H5 D = some (.dK kvs) ∧ kvs.length < sizeLine ∧ Pv (i + 1) (upd H5 D (.dK (putK kvs k z))) else Pv (i + 1) H3)
    (hd : ∀ H, Pv n H → Qd H) : ∃ W : Nat → Nat → Hp → Prop, (∃ m, W 0 m (upd H1 D (.dK []))) ∧ ∀ i m H, W i m H →
      (J.stop i H ∧ Qd H) ∨ (J.go i H ∧ ∃ Nx : Hp → Prop, (∀ H', Nx H' → ∃ m', m' < m ∧ W (i + 1) m' H') ∧ ∀ x H', J.yld i H x H' → g x (wipe σ vs) H' fun σ2 H2 => wipe σ2 vs = wipe σ vs ∧ tt σ2 H2 fun b H3 =>
        if b = true then tk σ2 H3 fun y H4 => tv σ2 H4 fun z H5 => ∃ kvs k, y = kV k ∧ H5 D = some (.dK kvs) ∧ kvs.length < sizeLine ∧ Nx (upd H5 D (.dK (putK kvs k z))) else Nx H3) := by
  refine ⟨fun i m H => i + m = n ∧ Pv i H, ⟨n, by omega, h0⟩, fun i m H ⟨e, h⟩ => ?_⟩
  have gi := hG i H (by omega) h
  by_cases hi : i < n
  · exact .inr ⟨w.goes i H hi gi, fun H' => Pv (i + 1) H', fun H' h' => ⟨m - 1, by omega, by omega, h'⟩, fun x H' y => hs i x H H' hi h (w.yields i H x H' hi gi y)⟩
  · obtain rfl : i = n := by omega
    exact .inl ⟨w.stops H gi, hd H h⟩
end
open Classical in
theorem keys_put {kvs : List (Key × V)} {k : Key} {v : V} : (putK kvs k v).map (·.1) = if k ∈ kvs.map (·.1) then kvs.map (·.1) else kvs.map (·.1) ++ [k] := by
  unfold putK
  by_cases h : k ∈ kvs.map (·.1)
  · rw [if_pos h]
    have e : (kvs.any fun kv => decide (kv.1 = k)) = true := by
      obtain ⟨p, hp, rfl⟩ := List.mem_map.mp h
      exact List.any_eq_true.mpr ⟨p, hp, decide_eq_true rfl⟩
    rw [if_pos e, List.map_map]
    apply List.map_congr_left
    intro p _
    show (if p.1 = k then (p.1, v) else p).1 = p.1
    split <;> rfl
  · rw [if_neg h]
    have e : ¬ (kvs.any fun kv => decide (kv.1 = k)) = true := fun z => by
      obtain ⟨p, hp, e⟩ := List.any_eq_true.mp z
      exact h (List.mem_map.mpr ⟨p, hp, of_decide_eq_true e⟩)
    rw [if_neg e, List.map_append]
    rfl
theorem nonN (v : V) : (!decide (v = V.non)) = notNon v := by cases v <;> simp [notNon]
theorem mem_name {H : Hp} {v : V} (h : memB H v = true) : ∃ y, tupOf H v = some [.str (nameV H v), y] := by
  unfold memB at h
  cases e : tupOf H v with
  | none => rw [e] at h; cases h
  | some xs =>
    rw [e] at h
    match xs, h with
    | [], h => cases h
    | [_], h => cases h
    | _ :: _ :: _ :: _, h => cases h
    | [x, y], h =>
      cases x with
      | str z =>
        refine ⟨y, ?_⟩
        have en : nameV H v = z := by unfold nameV; rw [e]
        rw [en]
      | _ =>
        have h' : (wordV _ && numV y) = true := h
        rw [show wordV _ = false from rfl] at h'
        cases h'
theorem leavesB_no {H : Hp} {h : Nat} {v : V} (e : tupOf H v = none) : leavesB H h v = false := by unfold leavesB; rw [e]
theorem leavesB_at {H : Hp} {h : Nat} {v : V} {xs : List V} (e : tupOf H v = some xs) : leavesB H h v = (decide (xs.length = 2 ^ h) && ((xs.filter notNon).all (memB H) && decide (((xs.filter notNon).map (nameV H)).Nodup))) := by unfold leavesB; rw [e]
def spLeav : Sp := fun vs H Q _ => ∃ (b : Addr) (h : Nat) (v : V), vs = [.int (h : Int), v] ∧ h ≤ 8 ∧ Thg b H v ∧ ∀ H', Same H H' → Q (.bl (leavesB H h v)) H'
def spNode : Sp := fun vs H Q _ => ∃ (b : Addr) (h : Nat) (v : V), vs = [.int (h : Int), v] ∧ h ≤ 8 ∧ Thg b H v ∧ Q (.bl (nodeB H h v)) H
theorem filt_snoc {α : Type} (p : α → Bool) {xs : List α} {i : Nat} {x : α} (h : xs[i]? = some x) : (xs.take (i + 1)).filter p = (xs.take i).filter p ++ if p x = true then [x] else [] := by
  rw [take_snoc h, List.filter_append, List.filter_cons, List.filter_nil]
theorem nodup_snoc {α : Type} {l : List α} {z : α} : (l ++ [z]).Nodup ↔ l.Nodup ∧ z ∉ l := by
  rw [List.nodup_append]
  constructor
  · rintro ⟨h1, _, h3⟩
    exact ⟨h1, fun h => h3 z h z List.mem_cons_self rfl⟩
  · rintro ⟨h1, h2⟩
    exact ⟨h1, by simp, fun a ha b hb e => h2 (by rw [List.mem_singleton] at hb; rw [← hb, ← e]; exact ha)⟩
section
variable {P : Program} {w : World} {K : PySem.W.Frag} {mg : Str → Option Value} {base : Heap}
theorem scLeav : FnScope ["height", "thing", "having", "leaf"] ["height", "thing"] (defScope sLeav) := ⟨rfl, rfl, rfl, by decide +kernel, rfl, by decide +kernel, by decide +kernel⟩
theorem ok_leav {f : Addr} {fd : FuncData} {k : Nat} (F : Fun K "is_leaves" "is_leaves" sLeav f fd) (T : Tx mg) (cM : Cal P w K mg base (k + 2) "is_member" ["thing"] spMemb) : FnOk P w K mg base CX0 (k + 3) f fd ["height", "thing"] spLeav := by
  refine F.ok scLeav (fun vs H Q E h => ?_) (fun cdv A outer s H vs Q E hr h => ?_)
  · obtain ⟨b, h, v, rfl, _⟩ := h
    rfl
  · obtain ⟨b, h, v, rfl, hh, hv, q⟩ := h
    obtain ⟨t, ht⟩ := hv.th
    refine ⟨_, (pss_cons (ps_if (pt_or (pt_not (pt_val (pe_callB call_isTh (by rfl) T.isi (by decide +kernel) (pa_cons (pv 1) (pa_cons (pe_bltn (v := .ty "tuple") (u := .type "tuple") (by rfl) T.tuple_ (by decide +kernel) rfl) pa_nil))))) (pw_or1 (pt_cmpR op_ne (pe_callB call_len_seq (by rfl) T.len_ PySem.boot_len (pa_cons (pv 1) pa_nil)) (pe_op op_shl pe_int (pv 0)) (nomark _)))) (pss_one (ps_ret pe_bl)) pss_nil) (pss_cons (ps_setLc (own := [("leaf", 3)]) (i := 2) (g := gName 3) (te := tVar 3) (tt := tTest (tOp rNotN (tVar 3) (tC .non))) rfl scLeav.nd rfl rfl (sw_true rfl rfl rfl (by decide +kernel)) (pi_tup (pv 1)) (blkOk_by (N := ["height", "thing", "having", "leaf"]) (sc := defScope sLeav) (by decide +kernel)) (fun _ _ _ _ _ => pg_name (i := 3) scLeav.nd rfl (Or.inl rfl)) (fun _ _ _ _ _ => (pts_one (pt_cmpR op_notN (pv 3) pe_non (nomark _)))) (fun _ _ _ _ _ => (pv 3))) (pss_one (ps_ret (pe_and (pe_callB (cr_all rfl) (by rfl) T.all_ (by decide +kernel) (pa_cons (pe_lc (own := [("leaf", 3)]) (g := gName 3) (te := tCall spMemb [] E0 (tCons (tVar 3) tNil)) rfl scLeav.nd (pi_list (pv 2)) (blkOk_by (N := ["height", "thing", "having", "leaf"]) (sc := defScope sLeav) (by decide +kernel)) (fun _ _ _ _ _ => pg_name (i := 3) scLeav.nd rfl (Or.inl rfl)) (fun _ _ _ _ _ => pts_nil) (fun _ _ _ _ _ => (pe_c cM hr (by omega) (by rfl) (pa_cons (pv 3) pa_nil)))) pa_nil)) (pe_one (pe_cmpR op_eq (pe_callB call_lenD (by rfl) T.len_ PySem.boot_len (pa_cons (pe_dc (own := [("leaf", 3)]) (g := gName 3) (tk := tOp (rIxT K) (tVar 3) (tC (.int 0))) (tv := tC (.bl true)) rfl scLeav.nd (pi_list (pv 2)) (blkOk_by (N := ["height", "thing", "having", "leaf"]) (sc := defScope sLeav) (by decide +kernel)) (fun _ _ _ _ _ => (pg_name (i := 3) scLeav.nd rfl (Or.inl rfl))) (fun _ _ _ _ _ => pts_nil) (fun _ _ _ _ _ => (pe_ix ix_tup (pv 3) pe_int (fun _ _ => rfl))) (fun _ _ _ _ _ => pe_bl)) pa_nil)) (pe_callB call_len_seq (by rfl) T.len_ PySem.boot_len (pa_cons (pv 2) pa_nil)) (nomark _)))))))), ?_⟩
    refine ⟨_, rfl, _, "tuple", t, rfl, ht, by decide, _, rfl, ?_⟩
    rcases tup_cases ht with ⟨a, xs, rfl, hx, e, rfl⟩ | ⟨e1, e2⟩
    rotate_left
    · rw [e2]
      rw [leavesB_no e1] at q
      exact iteT (q _ (Same.refl _))
    obtain ⟨hl, hxs⟩ := hv.sub hx
    rw [leavesB_at e] at q
    refine iteF ⟨_, rfl, a, xs, rfl, .inr (.of hx), _, rfl, _, _, rfl, rfl, ⟨by omega, by omega, by decide⟩, rfl, _, rfl, ?_⟩
    have e2 : (1 * 2 ^ (h : Int).toNat : Int) = ((2 ^ h : Nat) : Int) := by
      rw [Int.one_mul, Int.toNat_natCast]
      push_cast
      rfl
    have hd : decide (V.int (xs.length : Nat) = V.int (1 * 2 ^ (h : Int).toNat)) = decide (xs.length = 2 ^ h) := by
      rw [dec_int, e2, Bool.eq_iff_iff, beq_iff_eq, decide_eq_true_iff]
      omega
    dsimp only
    rw [hd]
    by_cases hlen : xs.length = 2 ^ h
    rotate_left
    · rw [decide_eq_false hlen, Bool.false_and] at q
      rw [decide_eq_false hlen]
      exact iteT (q _ (Same.refl _))
    rw [decide_eq_true hlen, Bool.true_and] at q
    rw [decide_eq_true hlen]
    refine iteF ?_
    refine ⟨_, rfl, a, rfl, ⟨_, .of hx⟩, fun D nD => ?_⟩
    have hb8 : xs.length ≤ 256 := by
      rw [hlen]
      exact Nat.le_trans (Nat.pow_le_pow_right (by decide) hh) (by decide)
    refine lc_it (walk_tup (xs := xs)) (fun i G => Same H G ∧ G D = some (.lst ((xs.take i).filter notNon))) ⟨same_upd nD, by rw [upd_same]; rfl⟩ (fun i G _ hG => .of (hG.1 _ _ hx)) ?_ ?_
    · rintro i y G G' hi ⟨sm, hD⟩ ⟨rfl, hy⟩
      refine ⟨rfl, _, rfl, rfl, _, rfl, ?_⟩
      rw [nonN, filt_snoc notNon hy]
      cases hn : notNon y with
      | false => exact iteF ⟨sm, by rw [if_neg Bool.false_ne_true, List.append_nil]; exact hD⟩
      | true =>
        refine iteT ⟨_, rfl, _, hD, Nat.lt_of_le_of_lt (show ((xs.take i).filter notNon).length ≤ 300 from Nat.le_trans (List.length_filter_le _ _) (by rw [List.length_take]; omega)) (by decide), same_put sm nD, by rw [if_pos rfl]; exact upd_same⟩
    rintro G ⟨sm, hD⟩
    rw [List.take_length] at hD
    generalize hvs : xs.filter notNon = vs at *
    have hm : ∀ x ∈ vs, Thg b H x := fun x hx2 => hxs x (by rw [← hvs] at hx2; exact (List.mem_filter.mp hx2).1)
    have hvl : vs.length ≤ 256 := by rw [← hvs]; exact Nat.le_trans (List.length_filter_le _ _) hb8
    refine ⟨_, rfl, D, rfl, ⟨_, SqL.of hD⟩, fun D2 nD2 => ?_⟩
    refine lcP (walk_list (xs := vs)) (fun i => V.bl (memB H (vs.getD i .non))) (Nat.lt_of_le_of_lt hvl (by decide)) nD2 (fun _ s => SqL.of (s _ _ hD)) ?_ ?_
    · rintro i y G3 G4 Q' hi s3 ⟨rfl, hy⟩ hq
      have eg : vs.getD i .non = y := by rw [List.getD_eq_getElem?_getD, hy]; rfl
      rw [eg] at hq
      have ty := (hm y (List.mem_of_getElem? hy)).same (sm.trans s3)
      refine ⟨rfl, _, rfl, b, y, rfl, ty, fun G5 s5 => ?_⟩
      have em : memB G4 y = memB H y := by
        unfold memB
        rw [tupOf_bl (hm y (List.mem_of_getElem? hy)) (.same (sm.trans s3))]
      rw [em]
      exact hq _ s5
    intro G3 s3 hd3
    refine ⟨D2, (List.range vs.length).map fun i => memB H (vs.getD i .non), rfl, .inl (.inl (by rw [hd3, List.map_map]; rfl)), ?_⟩
    rw [range_all]
    have s03 := sm.trans s3
    have hD3 := s3 _ _ hD
    refine ⟨_, rfl, ?_⟩
    cases hall : vs.all (memB H) with
    | false =>
      rw [hall, Bool.false_and] at q
      exact iteF (q _ s03)
    | true =>
      rw [hall, Bool.true_and] at q
      refine iteT ⟨_, rfl, D, rfl, ⟨_, SqL.of hD3⟩, fun D4 nD4 => ?_⟩
      refine dcK_it (walk_list (xs := vs)) (fun i G4 => Same G3 G4 ∧ ∃ kvs : List (Key × V), G4 D4 = some (.dK kvs) ∧ (∀ z, .inr z ∈ kvs.map (·.1) ↔ z ∈ (vs.take i).map (nameV H)) ∧ kvs.length ≤ i ∧ (kvs.length = i ↔ ((vs.take i).map (nameV H)).Nodup)) ⟨same_upd nD4, [], upd_same, by simp, Nat.le_refl _, by simp⟩ (fun i G4 _ h4 => SqL.of (h4.1 _ _ hD3)) ?_ ?_
      · rintro i y G4 G5 hi ⟨s4, kvs, h1, h2, h3, h4⟩ ⟨rfl, hy⟩
        have my := List.mem_of_getElem? hy
        obtain ⟨u, eu⟩ := mem_name (List.all_eq_true.mp hall y my)
        obtain ⟨ay, rfl, hay, _, _⟩ := tupOf_sub (hm y my) eu
        have hay4 := s4 _ _ (s03 _ _ hay)
        refine ⟨rfl, _, rfl, ay, _, _, _, rfl, rfl, .of hay4, atI_nat (j := 0) rfl, kvs, .inr (nameV H (.ref ay)), rfl, h1, Nat.lt_of_le_of_lt (show kvs.length ≤ 256 by omega) (by decide), same_put s4 nD4, _, upd_same, fun z => ?_, ?_, ?_⟩
        · rw [keys_put, take_snoc hy, List.map_append, List.mem_append]
          split
          · rename_i hk
            rw [h2]
            constructor
            · exact .inl
            · rintro (c | c)
              · exact c
              · rw [List.map_cons, List.map_nil, List.mem_singleton] at c
                rw [c]
                exact (h2 _).mp hk
          · rw [List.mem_append, h2, List.mem_singleton, List.map_cons, List.map_nil, List.mem_singleton]
            constructor
            · rintro (c | c)
              · exact .inl c
              · exact .inr (Sum.inr.inj c)
            · rintro (c | c)
              · exact .inl c
              · exact .inr (by rw [c])
        · have := length_putK kvs (.inr (nameV H (.ref ay))) (.bl true)
          omega
        · have hlk : (putK kvs (.inr (nameV H (.ref ay))) (V.bl true)).length = ((putK kvs (.inr (nameV H (.ref ay))) (V.bl true)).map (·.1)).length := by rw [List.length_map]
          rw [hlk, keys_put, take_snoc hy, List.map_append, List.map_cons, List.map_nil, nodup_snoc, ← h4, ← h2]
          split
          · rename_i hk
            rw [List.length_map]
            constructor
            · intro c; omega
            · intro c; exact absurd hk c.2
          · rename_i hk
            rw [List.length_append, List.length_map, List.length_singleton]
            constructor
            · intro c; exact ⟨by omega, hk⟩
            · intro c; omega
      · rintro G4 ⟨s4, kvs, h1, h2, h3, h4⟩
        refine ⟨D4, kvs, rfl, h1, _, rfl, D, vs, rfl, .inl (.of (s4 _ _ hD3)), rfl, ?_⟩
        rw [List.take_length] at h4
        have ed : decide (V.int (kvs.length : Nat) = V.int (vs.length : Nat)) = decide ((vs.map (nameV H)).Nodup) := by
          rw [dec_int]
          by_cases c : (vs.map (nameV H)).Nodup
          · rw [decide_eq_true c, beq_iff_eq, h4.mpr c]
          · rw [decide_eq_false c, beq_eq_false_iff_ne]
            exact fun z => c (h4.mp (by omega))
        rw [ed]
        exact q _ (s03.trans s4)
theorem scNode : FnScope ["height", "thing"] ["height", "thing"] (defScope sNode) := ⟨rfl, rfl, rfl, by decide +kernel, rfl, by decide +kernel, by decide +kernel⟩
theorem ok_node {f : Addr} {fd : FuncData} {k : Nat} (F : Fun K "is_node" "is_node" sNode f fd) (T : Tx mg) (cP : Cal P w K mg base (k + 1) "is_pair" ["thing"] spPair) (cB : Cal P w K mg base (k + 1) "is_below" ["bound", "thing"] spBelow) : FnOk P w K mg base CX0 (k + 2) f fd ["height", "thing"] spNode := by
  refine F.ok scNode (fun vs H Q E h => ?_) (fun cdv A outer s H vs Q E hr h => ?_)
  · obtain ⟨b, h, v, rfl, _⟩ := h
    rfl
  · obtain ⟨b, h, v, rfl, hh, hv, q⟩ := h
    refine ⟨_, (pss_one (ps_ret (pe_and (pe_c cP hr (by omega) (by rfl) (pa_cons (pv 1) pa_nil)) (pe_and (pe_c cB hr (by omega) (by rfl) (pa_cons (pe_op op_add (pv 0) pe_int) (pa_cons (pe_ix ix_tup (pv 1) pe_int (fun _ _ => rfl)) pa_nil))) (pe_one (pe_c cB hr (by omega) (by rfl) (pa_cons (pe_op op_shl pe_int (pe_op op_sub (pv 0) (pe_ix ix_tup (pv 1) pe_int (fun _ _ => rfl)))) (pa_cons (pe_ix ix_tup (pv 1) pe_int (fun _ _ => rfl)) pa_nil)))))))), ?_⟩
    refine ⟨_, rfl, b, v, rfl, hv, _, rfl, ?_⟩
    cases hp : pairB H v with
    | false =>
      have e : nodeB H h v = false := by
        unfold pairB at hp
        unfold nodeB
        split <;> simp_all
      rw [e] at q
      exact iteF q
    | true =>
      obtain ⟨a, x, y, rfl, ha, e, tx, ty⟩ := pair_of hv hp
      have en : nodeB H h (.ref a) = (belowV ((h : Int) + 1) x && belowV ((2 : Int) ^ (h - iV x)) y) := by unfold nodeB; rw [e]
      rw [en] at q
      refine iteT ⟨_, rfl, _, _, rfl, rfl, _, rfl, a, _, _, x, rfl, rfl, .of ha, atI_nat (j := 0) rfl, b, _, x, rfl, tx, _, rfl, ?_⟩
      cases hx : belowV ((h : Int) + 1) x with
      | false =>
        rw [hx] at q
        exact iteF q
      | true =>
        rw [hx] at q
        cases x with
        | int i =>
          have hi := of_decide_eq_true (show decide (0 ≤ i ∧ i < (h : Int) + 1) = true from hx)
          refine iteT ⟨_, rfl, _, rfl, a, _, _, .int i, rfl, rfl, .of ha, atI_nat (j := 0) rfl, _, _, rfl, rfl, _, _, rfl, rfl, ⟨by omega, by omega, by decide⟩, _, rfl, a, _, _, y, rfl, rfl, .of ha, atI_nat (j := 1) rfl, b, _, y, rfl, ty, ?_⟩
          have e3 : (1 * 2 ^ ((h : Int) - i).toNat : Int) = (2 : Int) ^ (h - iV (.int i)) := by
            rw [Int.one_mul]
            congr 1
            show ((h : Int) - i).toNat = h - i.toNat
            omega
          rw [e3]
          exact q
        | _ => cases hx
end
end L2.My
end
section
set_option Elab.async false
set_option linter.all false
set_option maxRecDepth 100000
set_option maxHeartbeats 4000000
/-! is_kept_node, is_nodes. -/
namespace L2.My
open PySem PySem.Spec PyProof.Rows
abbrev sKept : Stmt := top 18
abbrev sNods : Stmt := top 19
abbrev rShr : R2 := rI (fun _ j => 0 ≤ j) fun i j => .int (i / 2 ^ j.toNat)
theorem keptB_no {H : Hp} {h : Nat} {ls : List V} {v : V} (e : tupOf H v = none) : keptB H h ls v = false := by unfold keptB; rw [e]
theorem keptB_len {H : Hp} {h : Nat} {ls : List V} {v : V} {xs : List V} (e : tupOf H v = some xs) (n : xs.length ≠ 3) : keptB H h ls v = false := by
  unfold keptB
  rw [e]
  match xs, n with
  | [], _ => rfl
  | [_], _ => rfl
  | [_, _], _ => rfl
  | [_, _, _], n => exact absurd rfl n
  | _ :: _ :: _ :: _ :: _, _ => rfl
theorem keptB_at {H : Hp} {h : Nat} {ls : List V} {v n l a : V} (e : tupOf H v = some [n, l, a]) : keptB H h ls v = (nodeB H h n && (decide (levV H n ≠ 0) && (numV l && asideB H ls (levV H n) (atV H n) a))) := by unfold keptB; rw [e]
theorem asideB_no {H : Hp} {ls : List V} {p q : Nat} {v : V} (e : tupOf H v = none) : asideB H ls p q v = false := by unfold asideB; rw [e]
theorem asideB_at {H : Hp} {ls : List V} {p q : Nat} {v : V} {xs : List V} (e : tupOf H v = some xs) : asideB H ls p q v = (xs.all (belowV (ls.length : Int)) && (ascBy ltI (xs.map intV) && xs.all fun x => decide (iV x / 2 ^ p = q) && notNon (ls.getD (iV x) .non))) := by unfold asideB; rw [e]
theorem below_int {n : Int} {v : V} (h : belowV n v = true) : v = .int (iV v : Nat) ∧ ((iV v : Nat) : Int) < n ∧ intV v = (iV v : Nat) := by
  cases v with
  | int i =>
    have hi := of_decide_eq_true (show decide (0 ≤ i ∧ i < n) = true from h)
    have e : ((iV (.int i) : Nat) : Int) = i := by
      show ((i.toNat : Nat) : Int) = i
      omega
    rw [e]
    exact ⟨rfl, hi.2, rfl⟩
  | _ => cases h
theorem ints_all {n : Int} : ∀ {xs : List V}, xs.all (belowV n) = true → xs = (xs.map intV).map V.int
  | [], _ => rfl
  | x :: r, h => by
    rw [List.all_cons, Bool.and_eq_true] at h
    obtain ⟨h1, _, h3⟩ := below_int h.1
    rw [List.map_cons, List.map_cons, ← ints_all h.2, h3, ← h1]
/-- what passed is_node -/
theorem node_of {b : Addr} {H : Hp} {h : Nat} {v : V} (t : Thg b H v) (e : nodeB H h v = true) : ∃ a, v = .ref a ∧ H a = some (.tup [.int (levV H v : Nat), .int (atV H v : Nat)]) ∧ tupOf H v = some [.int (levV H v : Nat), .int (atV H v : Nat)] ∧ levV H v ≤ h ∧ ((atV H v : Nat) : Int) < (2 : Int) ^ (h - levV H v) ∧ nodI H v = [((levV H v : Nat) : Int), ((atV H v : Nat) : Int)] := by
  have hp : pairB H v = true := by
    unfold nodeB at e
    unfold pairB
    split at e
    · rfl
    · cases e
  obtain ⟨a, x, y, rfl, ha, ep, tx, ty⟩ := pair_of t hp
  have en : nodeB H h (.ref a) = (belowV ((h : Int) + 1) x && belowV ((2 : Int) ^ (h - iV x)) y) := by unfold nodeB; rw [ep]
  have e1 : levV H (.ref a) = iV x := by unfold levV; rw [ep]
  have e2 : atV H (.ref a) = iV y := by unfold atV; rw [ep]
  have e3 : nodI H (.ref a) = [intV x, intV y] := by unfold nodI; rw [ep]; rfl
  rw [en, Bool.and_eq_true] at e
  obtain ⟨a1, a2, a3⟩ := below_int e.1
  obtain ⟨b1, b2, b3⟩ := below_int e.2
  rw [e1, e2, e3, a3, b3, ← a1, ← b1]
  exact ⟨a, rfl, ha, ep, by omega, b2, rfl⟩
def spKept : Sp := fun vs H Q _ => ∃ (b : Addr) (h : Nat) (la : Addr) (ls : List V) (v : V), vs = [.int (h : Int), .ref la, v] ∧ h ≤ 8 ∧ H la = some (.tup ls) ∧ Thg b H v ∧ ∀ H', Same H H' → Q (.bl (keptB H h ls v)) H'
def spNods : Sp := fun vs H Q _ => ∃ (b : Addr) (h : Nat) (la : Addr) (ls : List V) (v : V), vs = [.int (h : Int), .ref la, v] ∧ h ≤ 8 ∧ H la = some (.tup ls) ∧ Thg b H v ∧ ∀ H', Same H H' → Q (.bl (nodesB H h ls v)) H'
section
variable {P : Program} {w : World} {K : PySem.W.Frag} {mg : Str → Option Value} {base : Heap}
abbrev nKp : List Str := ["height", "leaves", "thing", "node", "lock", "aside", "leaf"]
theorem scKp : FnScope nKp ["height", "leaves", "thing"] (defScope sKept) := ⟨rfl, rfl, rfl, by decide +kernel, rfl, by decide +kernel, by decide +kernel⟩
theorem ok_kept {f : Addr} {fd : FuncData} {k : Nat} (F : Fun K "is_kept_node" "is_kept_node" sKept f fd) (T : Tx mg) (cN : Cal P w K mg base (k + 2) "is_node" ["height", "thing"] spNode) (cU : Cal P w K mg base (k + 2) "is_number" ["thing"] spNumb) (cB : Cal P w K mg base (k + 2) "is_below" ["bound", "thing"] spBelow) (cA : Cal P w K mg base (k + 2) "ascends" ["things"] spAsc) : FnOk P w K mg base CX0 (k + 3) f fd ["height", "leaves", "thing"] spKept := by
  refine F.ok scKp (fun vs H Q E h => ?_) (fun cdv A outer s H vs Q E hr h => ?_)
  · obtain ⟨b, h, la, ls, v, rfl, _⟩ := h
    rfl
  · obtain ⟨b, h, la, ls, v, rfl, hh, hla, hv, q⟩ := h
    obtain ⟨t, ht⟩ := hv.th
    refine ⟨_, (pss_cons (ps_if (pt_or (pt_not (pt_val (pe_callB call_isTh (by rfl) T.isi (by decide +kernel) (pa_cons (pv 2) (pa_cons (pe_bltn (v := .ty "tuple") (u := .type "tuple") (by rfl) T.tuple_ (by decide +kernel) rfl) pa_nil))))) (pw_or1 (pt_cmpR op_ne (pe_callB call_len_seq (by rfl) T.len_ PySem.boot_len (pa_cons (pv 2) pa_nil)) pe_int (nomark _)))) (pss_one (ps_ret pe_bl)) pss_nil) (pss_cons (ps_asg (pv 2) (pg_tup rfl (pgs_cons (pg_name (i := 3) scKp.nd rfl (Or.inr rfl)) (pgs_cons (pg_name (i := 4) scKp.nd rfl (Or.inl rfl)) (pgs_cons (pg_name (i := 5) scKp.nd rfl (Or.inl rfl)) pgs_nil))))) (pss_cons (ps_if (pt_or (pt_not (pt_val (pe_c cN hr (by omega) (by rfl) (pa_cons (pv 0) (pa_cons (pv 3) pa_nil))))) (pw_or (pt_cmpR op_eq (pe_ix ix_tup (pv 3) pe_int (fun _ _ => rfl)) pe_int (nomark _)) (pw_or (pt_not (pt_val (pe_c cU hr (by omega) (by rfl) (pa_cons (pv 4) pa_nil)))) (pw_or1 (pt_not (pt_val (pe_callB call_isTh (by rfl) T.isi (by decide +kernel) (pa_cons (pv 5) (pa_cons (pe_bltn (v := .ty "tuple") (u := .type "tuple") (by rfl) T.tuple_ (by decide +kernel) rfl) pa_nil))))))))) (pss_one (ps_ret pe_bl)) pss_nil) (pss_cons (ps_if (pt_or (pt_not (pt_val (pe_callB (cr_all rfl) (by rfl) T.all_ (by decide +kernel) (pa_cons (pe_lc (own := [("leaf", 6)]) (g := gName 6) (te := tCall spBelow [] E0 (tCons (tCB (rLenS K) (tCons (tVar 1) tNil)) (tCons (tVar 6) tNil))) rfl scKp.nd (pi_tup (pv 5)) (blkOk_by (N := nKp) (sc := defScope sKept) (by decide +kernel)) (fun _ _ _ _ _ => pg_name (i := 6) scKp.nd rfl (Or.inl rfl)) (fun _ _ _ _ _ => pts_nil) (fun _ _ _ _ _ => (pe_c cB hr (by omega) (by rfl) (pa_cons (pe_callB call_len_seq (by rfl) T.len_ PySem.boot_len (pa_cons (pv 1) pa_nil)) (pa_cons (pv 6) pa_nil))))) pa_nil)))) (pw_or1 (pt_not (pt_val (pe_c cA hr (by omega) (by rfl) (pa_cons (pv 5) pa_nil)))))) (pss_one (ps_ret pe_bl)) pss_nil) (pss_one (ps_ret (pe_callB (cr_all rfl) (by rfl) T.all_ (by decide +kernel) (pa_cons (pe_lc (own := [("leaf", 6)]) (g := gName 6) (te := tAndV (tOp rEq (tOp rShr (tVar 6) (tOp (rIxT K) (tVar 3) (tC (.int 0)))) (tOp (rIxT K) (tVar 3) (tC (.int 1)))) (tOp rNotN (tOp (rIxT K) (tVar 1) (tVar 6)) (tC .non))) rfl scKp.nd (pi_tup (pv 5)) (blkOk_by (N := nKp) (sc := defScope sKept) (by decide +kernel)) (fun _ _ _ _ _ => pg_name (i := 6) scKp.nd rfl (Or.inl rfl)) (fun _ _ _ _ _ => pts_nil) (fun _ _ _ _ _ => (pe_and (pe_cmpR op_eq (pe_op op_shr (pv 6) (pe_ix ix_tup (pv 3) pe_int (fun _ _ => rfl))) (pe_ix ix_tup (pv 3) pe_int (fun _ _ => rfl)) (nomark _)) (pe_one (pe_cmpR op_notN (pe_ix ix_tup (pv 1) (pv 6) (fun _ _ => rfl)) pe_non (nomark _)))))) pa_nil)))))))), ?_⟩
    refine ⟨_, rfl, _, "tuple", t, rfl, ht, by decide, _, rfl, ?_⟩
    rcases tup_cases ht with ⟨a, xs, rfl, hx, e, rfl⟩ | ⟨e1, e2⟩
    rotate_left
    · rw [e2]
      rw [keptB_no e1] at q
      exact iteT (q _ (Same.refl _))
    obtain ⟨hl, hxs⟩ := hv.sub hx
    refine iteF ⟨_, rfl, a, xs, rfl, .inr (.of hx), rfl, _, rfl, ?_⟩
    have hd : decide (V.int (xs.length : Nat) = V.int 3) = decide (xs.length = 3) := by
      rw [dec_int, Bool.eq_iff_iff, beq_iff_eq, decide_eq_true_iff]
      omega
    rw [hd]
    by_cases h3 : xs.length = 3
    rotate_left
    · rw [decide_eq_false h3]
      rw [keptB_len e h3] at q
      exact iteT (q _ (Same.refl _))
    rw [decide_eq_true h3]
    obtain ⟨n, l, c, rfl⟩ : ∃ n l c, xs = [n, l, c] := by
      match xs, h3 with
      | [n, l, c], _ => exact ⟨n, l, c, rfl⟩
    rw [keptB_at e] at q
    have tn := hxs n (by simp)
    have tl := hxs l (by simp)
    have tc := hxs c (by simp)
    refine iteF ⟨_, rfl, a, _, rfl, .of hx, rfl, _, _, rfl, _, _, rfl, _, _, rfl, rfl, ?_⟩
    refine ⟨_, rfl, _, rfl, b, h, n, rfl, hh, tn, _, rfl, ?_⟩
    cases hn : nodeB H h n with
    | false =>
      rw [hn] at q
      exact iteT (q _ (Same.refl _))
    | true =>
    rw [hn, Bool.true_and] at q
    obtain ⟨na, rfl, hna, ena, hlev, hat, _⟩ := node_of tn hn
    generalize levV H (.ref na) = lev at *
    generalize atV H (.ref na) = at' at *
    refine iteF ⟨_, rfl, na, _, _, .int (lev : Nat), rfl, rfl, .of hna, atI_nat (j := 0) rfl, rfl, _, rfl, ?_⟩
    have hd0 : decide (V.int (lev : Nat) = V.int 0) = !decide (lev ≠ 0) := by
      rw [dec_int]
      by_cases z : lev = 0
      · rw [z]; rfl
      · rw [decide_eq_true z, Bool.not_true, beq_eq_false_iff_ne]
        omega
    rw [hd0]
    cases hz : decide (lev ≠ 0) with
    | false =>
      rw [hz] at q
      exact iteT (q _ (Same.refl _))
    | true =>
    rw [hz, Bool.true_and] at q
    refine iteF ⟨_, rfl, b, l, rfl, tl, _, rfl, ?_⟩
    cases hu : numV l with
    | false =>
      rw [hu] at q
      exact iteT (q _ (Same.refl _))
    | true =>
    rw [hu, Bool.true_and] at q
    obtain ⟨t2, ht2⟩ := tc.th
    refine iteF ⟨_, rfl, _, "tuple", t2, rfl, ht2, by decide, _, rfl, ?_⟩
    rcases tup_cases ht2 with ⟨c, ys, rfl, hc, ec, rfl⟩ | ⟨e1, e2⟩
    rotate_left
    · rw [e2]
      rw [asideB_no e1] at q
      exact iteT (q _ (Same.refl _))
    rw [asideB_at ec] at q
    obtain ⟨hyl, hys⟩ := tc.sub hc
    refine iteF ⟨_, rfl, c, rfl, ⟨_, .of hc⟩, fun D nD => ?_⟩
    refine lcP walk_tup (fun i => V.bl (belowV (ls.length : Int) (ys.getD i .non))) (Nat.lt_of_le_of_lt hyl (by decide)) nD (fun _ sm => .of (sm _ _ hc)) ?_ ?_
    · rintro i y G3 G4 Q' hi sm ⟨rfl, hy⟩ hq
      have eg : ys.getD i .non = y := by rw [List.getD_eq_getElem?_getD, hy]; rfl
      rw [eg] at hq
      exact ⟨rfl, _, rfl, la, _, rfl, .inr (.of (sm _ _ hla)), _, rfl, b, _, y, rfl, (hys y (List.mem_of_getElem? hy)).same sm, hq _ (Same.refl _)⟩
    intro G sm hd1
    refine ⟨D, (List.range ys.length).map fun i => belowV (ls.length : Int) (ys.getD i .non), rfl, .inl (.inl (by rw [hd1, List.map_map]; rfl)), _, rfl, ?_⟩
    rw [range_all]
    cases hb : ys.all (belowV (ls.length : Int)) with
    | false =>
      rw [hb] at q
      exact iteT (q _ sm)
    | true =>
    rw [hb, Bool.true_and] at q
    have hcG := sm _ _ hc
    refine iteF ⟨_, rfl, c, ys, rfl, .inr hcG, hyl, .inl ⟨_, ints_all hb, fun G2 s2 => ⟨_, rfl, ?_⟩⟩⟩
    cases hasc : ascBy ltI (ys.map intV) with
    | false =>
      rw [hasc] at q
      exact iteT (q _ (sm.trans s2))
    | true =>
    rw [hasc, Bool.true_and] at q
    have s02 := sm.trans s2
    refine iteF ⟨_, rfl, c, rfl, ⟨_, .of (s02 _ _ hc)⟩, fun D2 nD2 => ?_⟩
    refine lcP walk_tup (fun i => V.bl ((fun x => decide (iV x / 2 ^ lev = at') && notNon (ls.getD (iV x) .non)) (ys.getD i .non))) (Nat.lt_of_le_of_lt hyl (by decide)) nD2 (fun _ s3 => .of (s3 _ _ (s02 _ _ hc))) ?_ ?_
    · rintro i y G3 G4 Q' hi s3 ⟨rfl, hy⟩ hq
      have eg : ys.getD i .non = y := by rw [List.getD_eq_getElem?_getD, hy]; rfl
      rw [eg] at hq
      have s03 := s02.trans s3
      obtain ⟨y1, y2, y3⟩ := below_int (List.all_eq_true.mp hb y (List.mem_of_getElem? hy))
      have hna3 := s03 _ _ hna
      have hq2 : ∀ H4, Same G4 H4 → Q' (V.bl (decide (iV y / 2 ^ lev = at') && notNon (ls.getD (iV y) .non))) H4 := hq
      clear hq
      generalize hj : iV y = j at *
      refine ⟨rfl, ?_⟩
      rw [y1]
      refine ⟨_, rfl, _, rfl, na, _, _, .int (lev : Nat), rfl, rfl, .of hna3, atI_nat (j := 0) rfl, _, _, rfl, rfl, by omega, _, rfl, na, _, _, .int (at' : Nat), rfl, rfl, .of hna3, atI_nat (j := 1) rfl, rfl, _, rfl, ?_⟩
      have e5 : decide (V.int (((j : Nat) : Int) / 2 ^ ((lev : Nat) : Int).toNat) = V.int (at' : Nat)) = decide (j / 2 ^ lev = at') := by
        have e6 : (((j : Nat) : Int) / 2 ^ ((lev : Nat) : Int).toNat) = ((j / 2 ^ lev : Nat) : Int) := by
          rw [Int.toNat_natCast]
          push_cast
          rfl
        rw [e6, dec_int, Bool.eq_iff_iff, beq_iff_eq, decide_eq_true_iff]
        omega
      rw [e5]
      cases h5 : decide (j / 2 ^ lev = at') with
      | false =>
        rw [h5] at hq2
        exact iteF (hq2 _ (Same.refl _))
      | true =>
        rw [h5, Bool.true_and] at hq2
        have hjl : j < ls.length := by omega
        have ej : ls[j]? = some ls[j] := List.getElem?_eq_getElem hjl
        have eg2 : ls.getD j .non = ls[j] := by rw [List.getD_eq_getElem?_getD, ej]; rfl
        rw [eg2] at hq2
        refine iteT ⟨_, rfl, _, rfl, la, _, _, ls[j], rfl, rfl, .of (s03 _ _ hla), atI_nat ej, rfl, ?_⟩
        rw [nonN]
        exact hq2 _ (Same.refl _)
    intro G3 s3 hd3
    refine ⟨D2, (List.range ys.length).map fun i => (fun x => decide (iV x / 2 ^ lev = at') && notNon (ls.getD (iV x) .non)) (ys.getD i .non), rfl, .inl (.inl (by rw [hd3, List.map_map]; rfl)), ?_⟩
    rw [range_all (fun x => decide (iV x / 2 ^ lev = at') && notNon (ls.getD (iV x) .non))]
    exact q _ (s02.trans s3)
theorem nodesB_no {H : Hp} {h : Nat} {ls : List V} {v : V} (e : tupOf H v = none) : nodesB H h ls v = false := by unfold nodesB; rw [e]
theorem nodesB_at {H : Hp} {h : Nat} {ls : List V} {v : V} {xs : List V} (e : tupOf H v = some xs) : nodesB H h ls v = (xs.all (keptB H h ls) && ascBy HT.lexLt (xs.map (rowI H))) := by unfold nodesB; rw [e]
theorem levV_bl {b : Addr} {H H' : Hp} {v : V} (t : Thg b H v) (s : BL [b] H H') : levV H' v = levV H v := by unfold levV; rw [tupOf_bl t s]
theorem atV_bl {b : Addr} {H H' : Hp} {v : V} (t : Thg b H v) (s : BL [b] H H') : atV H' v = atV H v := by unfold atV; rw [tupOf_bl t s]
theorem nodeB_bl {b : Addr} {H H' : Hp} {h : Nat} {v : V} (t : Thg b H v) (s : BL [b] H H') : nodeB H' h v = nodeB H h v := by unfold nodeB; rw [tupOf_bl t s]
theorem nodI_bl {b : Addr} {H H' : Hp} {v : V} (t : Thg b H v) (s : BL [b] H H') : nodI H' v = nodI H v := by unfold nodI; rw [tupOf_bl t s]
theorem asideB_bl {b : Addr} {H H' : Hp} {ls : List V} {p q : Nat} {v : V} (t : Thg b H v) (s : BL [b] H H') : asideB H' ls p q v = asideB H ls p q v := by unfold asideB; rw [tupOf_bl t s]
theorem keptB_bl {b : Addr} {H H' : Hp} {h : Nat} {ls : List V} {v : V} (t : Thg b H v) (s : BL [b] H H') : keptB H' h ls v = keptB H h ls v := by
  cases e : tupOf H v with
  | none => rw [keptB_no e, keptB_no ((tupOf_bl t s).trans e)]
  | some xs =>
    obtain ⟨a, _, _, _, q⟩ := tupOf_sub t e
    by_cases h3 : xs.length = 3
    · obtain ⟨n, l, c, rfl⟩ : ∃ n l c, xs = [n, l, c] := by
        match xs, h3 with
        | [n, l, c], _ => exact ⟨n, l, c, rfl⟩
      have tn := q n (by simp)
      rw [keptB_at e, keptB_at ((tupOf_bl t s).trans e), nodeB_bl tn s, levV_bl tn s, atV_bl tn s, asideB_bl (q c (by simp)) s]
    · rw [keptB_len e h3, keptB_len ((tupOf_bl t s).trans e) h3]
theorem rowI_bl {b : Addr} {H H' : Hp} {v : V} (t : Thg b H v) (s : BL [b] H H') : rowI H' v = rowI H v := by
  unfold rowI
  rw [tupOf_bl t s]
  cases e : tupOf H v with
  | none => rfl
  | some xs =>
    obtain ⟨a, _, _, _, q⟩ := tupOf_sub t e
    match xs, q with
    | [], _ => rfl
    | x :: r, q => exact nodI_bl (q x (by simp)) s
/-- a row that passed -/
theorem kept_of {b : Addr} {H : Hp} {h : Nat} {ls : List V} {v : V} (t : Thg b H v) (e : keptB H h ls v = true) : ∃ a na l c, v = .ref a ∧ H a = some (.tup [.ref na, l, c]) ∧ tupOf H v = some [.ref na, l, c] ∧ nodeB H h (.ref na) = true ∧ levV H (.ref na) ≠ 0 ∧ numV l = true ∧ asideB H ls (levV H (.ref na)) (atV H (.ref na)) c = true ∧ Thg b H (.ref na) ∧ Thg b H l ∧ Thg b H c ∧ rowI H v = nodI H (.ref na) := by
  cases et : tupOf H v with
  | none => rw [keptB_no et] at e; cases e
  | some xs =>
    by_cases h3 : xs.length = 3
    rotate_left
    · rw [keptB_len et h3] at e; cases e
    obtain ⟨n, l, c, rfl⟩ : ∃ n l c, xs = [n, l, c] := by
      match xs, h3 with
      | [n, l, c], _ => exact ⟨n, l, c, rfl⟩
    obtain ⟨a, rfl, ha, _, q⟩ := tupOf_sub t et
    rw [keptB_at et, Bool.and_eq_true, Bool.and_eq_true, Bool.and_eq_true] at e
    obtain ⟨e1, e2, e3, e4⟩ := e
    have tn := q n (by simp)
    obtain ⟨na, rfl, hna, ena, _⟩ := node_of tn e1
    refine ⟨a, na, l, c, rfl, ha, rfl, e1, of_decide_eq_true e2, e3, e4, tn, q l (by simp), q c (by simp), ?_⟩
    unfold rowI
    rw [et]
theorem scNd : FnScope ["height", "leaves", "thing", "row"] ["height", "leaves", "thing"] (defScope sNods) := ⟨rfl, rfl, rfl, by decide +kernel, rfl, by decide +kernel, by decide +kernel⟩
theorem ok_nods {f : Addr} {fd : FuncData} {k : Nat} (F : Fun K "is_nodes" "is_nodes" sNods f fd) (T : Tx mg) (cK : Cal P w K mg base (k + 3) "is_kept_node" ["height", "leaves", "thing"] spKept) (cA : Cal P w K mg base (k + 3) "ascends" ["things"] spAsc) : FnOk P w K mg base CX0 (k + 4) f fd ["height", "leaves", "thing"] spNods := by
  refine F.ok scNd (fun vs H Q E h => ?_) (fun cdv A outer s H vs Q E hr h => ?_)
  · obtain ⟨b, h, la, ls, v, rfl, _⟩ := h
    rfl
  · obtain ⟨b, h, la, ls, v, rfl, hh, hla, hv, q⟩ := h
    obtain ⟨t, ht⟩ := hv.th
    refine ⟨_, (pss_cons (ps_if (pt_or (pt_not (pt_val (pe_callB call_isTh (by rfl) T.isi (by decide +kernel) (pa_cons (pv 2) (pa_cons (pe_bltn (v := .ty "tuple") (u := .type "tuple") (by rfl) T.tuple_ (by decide +kernel) rfl) pa_nil))))) (pw_or1 (pt_not (pt_val (pe_callB (cr_all rfl) (by rfl) T.all_ (by decide +kernel) (pa_cons (pe_lc (own := [("row", 3)]) (g := gName 3) (te := tCall spKept [] E0 (tCons (tVar 0) (tCons (tVar 1) (tCons (tVar 3) tNil)))) rfl scNd.nd (pi_tup (pv 2)) (blkOk_by (N := ["height", "leaves", "thing", "row"]) (sc := defScope sNods) (by decide +kernel)) (fun _ _ _ _ _ => pg_name (i := 3) scNd.nd rfl (Or.inl rfl)) (fun _ _ _ _ _ => pts_nil) (fun _ _ _ _ _ => (pe_c cK hr (by omega) (by rfl) (pa_cons (pv 0) (pa_cons (pv 1) (pa_cons (pv 3) pa_nil)))))) pa_nil)))))) (pss_one (ps_ret pe_bl)) pss_nil) (pss_one (ps_ret (pe_c cA hr (by omega) (by rfl) (pa_cons (pe_lc (own := [("row", 3)]) (g := gName 3) (te := tOp (rIxT K) (tVar 3) (tC (.int 0))) rfl scNd.nd (pi_tup (pv 2)) (blkOk_by (N := ["height", "leaves", "thing", "row"]) (sc := defScope sNods) (by decide +kernel)) (fun _ _ _ _ _ => pg_name (i := 3) scNd.nd rfl (Or.inl rfl)) (fun _ _ _ _ _ => pts_nil) (fun _ _ _ _ _ => (pe_ix ix_tup (pv 3) pe_int (fun _ _ => rfl)))) pa_nil))))), ?_⟩
    refine ⟨_, rfl, _, "tuple", t, rfl, ht, by decide, _, rfl, ?_⟩
    rcases tup_cases ht with ⟨a, xs, rfl, hx, e, rfl⟩ | ⟨e1, e2⟩
    rotate_left
    · rw [e2]
      rw [nodesB_no e1] at q
      exact iteT (q _ (Same.refl _))
    obtain ⟨hl, hxs⟩ := hv.sub hx
    rw [nodesB_at e] at q
    refine iteF ⟨_, rfl, a, rfl, ⟨_, .of hx⟩, fun D nD => ?_⟩
    refine lcP walk_tup (fun i => V.bl (keptB H h ls (xs.getD i .non))) (Nat.lt_of_le_of_lt hl (by decide)) nD (fun _ sm => .of (sm _ _ hx)) ?_ ?_
    · rintro i y G3 G4 Q' hi sm ⟨rfl, hy⟩ hq
      have eg : xs.getD i .non = y := by rw [List.getD_eq_getElem?_getD, hy]; rfl
      rw [eg] at hq
      have ty := hxs y (List.mem_of_getElem? hy)
      refine ⟨rfl, _, rfl, _, rfl, _, rfl, b, h, la, ls, y, rfl, hh, sm _ _ hla, ty.same sm, fun G5 s5 => ?_⟩
      rw [keptB_bl ty (.same sm)]
      exact hq _ s5
    intro G sm hd1
    refine ⟨D, (List.range xs.length).map fun i => keptB H h ls (xs.getD i .non), rfl, .inl (.inl (by rw [hd1, List.map_map]; rfl)), _, rfl, ?_⟩
    rw [range_all]
    cases hb : xs.all (keptB H h ls) with
    | false =>
      rw [hb] at q
      exact iteT (q _ sm)
    | true =>
    rw [hb, Bool.true_and] at q
    refine iteF ⟨_, rfl, a, rfl, ⟨_, .of (sm _ _ hx)⟩, fun D2 nD2 => ?_⟩
    have rw1 : ∀ x ∈ xs, ∃ (c na : Addr) (l d : V), x = V.ref c ∧ H c = some (.tup [.ref na, l, d]) ∧ H na = some (.tup ((rowI H x).map V.int)) := fun x hm => by
      obtain ⟨c, na, l, d, e1, e2, _, e4, _, _, _, e8, _, _, e9⟩ := kept_of (hxs x hm) (List.all_eq_true.mp hb x hm)
      obtain ⟨na', e10, e11, _, _, _, e12⟩ := node_of e8 e4
      cases e10
      rw [e9, e12]
      exact ⟨c, na, l, d, e1, e2, e11⟩
    have fst : ∃ as : List Addr, as.length = xs.length ∧ Paired (fun a p => H a = some (.tup (p.map V.int))) as (xs.map (rowI H)) ∧ ∀ (i : Nat) (x : V), xs[i]? = some x → ∃ (c na : Addr) (l d : V), x = V.ref c ∧ H c = some (.tup [.ref na, l, d]) ∧ as[i]? = some na := by
      clear hd1 hb q hx e hl hxs hv ht
      induction xs with
      | nil => exact ⟨[], rfl, .nil, by simp⟩
      | cons x r ih =>
        obtain ⟨as, h1, h2, h3⟩ := ih (fun y hy => rw1 y (List.mem_cons_of_mem _ hy))
        obtain ⟨c, na, l, d, e1, e2, e3⟩ := rw1 x List.mem_cons_self
        refine ⟨na :: as, by simp [h1], .cons e3 h2, fun i y hy => ?_⟩
        cases i with
        | zero =>
          rw [List.getElem?_cons_zero] at hy
          cases hy
          exact ⟨c, na, l, d, e1, e2, rfl⟩
        | succ i => rw [List.getElem?_cons_succ] at hy ⊢; exact h3 i y hy
    obtain ⟨as, hal, hap, hai⟩ := fst
    refine lcP walk_tup (fun i => (as.map V.ref).getD i .non) (Nat.lt_of_le_of_lt hl (by decide)) nD2 (fun _ s2 => .of (s2 _ _ (sm _ _ hx))) ?_ ?_
    · rintro i y G3 G4 Q' hi s2 ⟨rfl, hy⟩ hq
      obtain ⟨c, na, l, d, rfl, e2, e3⟩ := hai i y hy
      have eg : (as.map V.ref).getD i .non = .ref na := by rw [List.getD_eq_getElem?_getD, List.getElem?_map, e3]; rfl
      rw [eg] at hq
      exact ⟨rfl, _, rfl, c, _, _, .ref na, rfl, rfl, .of (s2 _ _ (sm _ _ e2)), atI_nat (j := 0) rfl, hq _ (Same.refl _)⟩
    intro G3 s3 hd3
    have el : (List.range xs.length).map (fun i => (as.map V.ref).getD i .non) = as.map V.ref := by
      rw [← hal, ← List.length_map (f := V.ref)]
      apply List.ext_getElem
      · simp
      · intro i h1 h2
        rw [List.getElem_map, List.getElem_range, List.getD_eq_getElem?_getD, List.getElem?_eq_getElem h2]; rfl
    rw [el] at hd3
    have s03 := sm.trans s3
    exact ⟨D2, _, rfl, .inl hd3, by rw [List.length_map, hal]; exact hl, .inr ⟨as, _, rfl, Paired.mapP hap fun _ _ z => s03 _ _ z, fun G4 s4 => q _ (s03.trans s4)⟩⟩
end
end L2.My
end
section
set_option Elab.async false
set_option linter.all false
set_option maxRecDepth 100000
set_option maxHeartbeats 4000000
/-! == and != of an instance whose class has its own ==. -/
namespace L2.My
open PySem PySem.Spec PyProof.Rows
section
variable {M : Model} {prog : Program} {w : World} {A : Around} {E : Value → Shared → Prop} {s : Shared} {K : PySem.W.Frag} {x C f L : Addr} {ox : Obj} {od : Option Obj} {b tb : Value} {h₀ : Heap} {m : Str → Option Value}
theorem ne_entry {Q : Fin → Shared → Prop} (hu : A.units < cLine) (X : K.In s.heap) (I : PySem.W.InstAt s.heap x ox C od) (hs : PySem.W.findIn K (.ref C) "__eq__" = some (some (.ref f))) (hf : PySem.W.isFn K (.ref f) = true)
    (h : wpAny (model prog w) A (call (.ref f) [.ref x, b]) (fun v s' => ∃ c, v = .bool c ∧ Q (.done (.ret (.bool (!c)))) s') E s) : wpAny (model prog w) A (Builtin.«object.__ne__» ⟨[.ref x, b], []⟩) Q E s := by
  unfold Builtin.«object.__ne__»
  repeat (first
    | with_reducible refine wpAny_cRoomFor hu ?_
    | (refine wpAny_bind (m := callSpecialIfBound? (.ref x) (Str.ofString "__eq__") [b])
        (PySem.W.ifBound_K X I hs hf (wpAny_mono h (fun r s' hr => by
          obtain ⟨c, rfl, hq⟩ := hr
          repeat (first | exact hq | exact wpAny_pure hq | exact wpAny_truthy_bool hq | (refine wpAny_bind (m := truthy (.bool _)) (wpAny_truthy_bool ?_)) | wp_step)) fun _ _ e => e)))
    | wp_step)
theorem ifBound_ne {args : List Value} {Q : Option Value → Shared → Prop} (X : K.In s.heap) (I : PySem.W.InstAt s.heap x ox C od) (hs : PySem.W.findIn K (.ref C) "__ne__" = some (some (.builtin "object.__ne__")))
    (h : wpAny M A (call (.builtin "object.__ne__") (.ref x :: args)) (fun v => Q (some v)) E s) : wpAny M A (callSpecialIfBound? (.ref x) "__ne__" args) Q E s := by
  simp only [callSpecialIfBound?, bindSpecialIfBound?]
  refine wpAny_holding (wpAny_bind (wpAny_bind (wpAny_bind (I.type.here ((PySem.W.looks_findIn X hs).here ?_)))))
  refine wpAny_bind (wpAny_askSetting (wpAny_ite ?_))
  have fin : wpAny M A (call (.builtin "object.__ne__") ([.ref x] ++ args) >>= fun v => pure (some v)) Q E s := wpAny_bind (wpAny_mono h (fun v s' h' => wpAny_pure h') fun _ _ h' => h')
  split
  · exact wpAny_bind (wpAny_of_eq (F.cmp_object.ne.bind _) (wpAny_pure (by exact fin)))
  · exact wpAny_tryCatch (wpAny_bind (wpAny_of_eq (F.cmp_object.ne.bind _) (wpAny_pure (by exact fin))))
theorem ne_K {Q : Value → Shared → Prop} (hu : A.units + 1 < cLine) (X : K.In s.heap) (I : PySem.W.InstAt s.heap x ox C od) (hb : PySem.W.Looks (model prog w) s.heap (typeOf b) tb) (hn : PySem.W.notFirst K C tb = true)
    (hs : PySem.W.findIn K (.ref C) "__eq__" = some (some (.ref f))) (hf : PySem.W.isFn K (.ref f) = true) (hne : PySem.W.findIn K (.ref C) "__ne__" = some (some (.builtin "object.__ne__"))) (hm : PySem.W.mroIn K C (.type "object") = some true)
    (h : wpAny (model prog w) A.in1 (call (.ref f) [.ref x, b]) (fun v s' => ∃ c, v = .bool c ∧ Q (.bool (!c)) s') E s) : wpAny (model prog w) A (richCompare .NotEq (.ref x) b) Q E s := by
  have one : wpAny (model prog w) A (tryCompare (.ref x) "__ne__" b) (fun r s' => ∃ v, r = some v ∧ Q v s') E s := by
    unfold tryCompare
    refine wpAny_bind (ifBound_ne X I hne (wpAny_call (codeAny_call_builtin F.cmp_object.ne.plain F.cmpEntry_ne (PySem.W.check_slot F.cmpKind_ne F.cmpSplit_ne (I.type.andThen (PySem.W.looks_mroIn X hm)) (F.cmpArgs_ne _ _)
      (ne_entry (A := A.in1) hu X I hs hf (wpAny_mono h (fun v s' hv => ?_) fun _ _ e => e))))))
    obtain ⟨c, rfl, hq⟩ := hv
    exact ⟨c, rfl, wpAny_pure ⟨_, rfl, hq⟩⟩
  unfold richCompare
  simp only [oneThing_ref]
  refine wpAny_holding (wpAny_bind (wpAny_cRoomFor (by omega) ?_))
  refine wpAny_bind (I.type.here (wpAny_bind (hb.here ?_)))
  split
  · rename_i q
    have e : PySem.W.subIn K tb (.ref C) = some false := by
      rcases Bool.or_eq_true_iff.mp hn with e | e
      · rw [beq_iff_eq.mp e] at q; simp at q
      · exact beq_iff_eq.mp e
    refine wpAny_bind ((PySem.W.looks_subIn X e).here ?_)
    simp only [Bool.false_eq_true, if_false]
    refine wpAny_bind (wpAny_mono one (fun r s' z => ?_) fun _ _ e => e)
    obtain ⟨v, rfl, hq⟩ := z
    exact wpAny_pure hq
  · refine wpAny_bind (wpAny_pure ?_)
    simp only [Bool.false_eq_true, if_false]
    refine wpAny_bind (wpAny_mono one (fun r s' z => ?_) fun _ _ e => e)
    obtain ⟨v, rfl, hq⟩ := z
    exact wpAny_pure hq
end
/-- the type of a value, as the right side of a comparison -/
def rOwnEq (K : PySem.W.Frag) (C : Addr) (sp : Sp) (neg : Bool) : R2 := fun x y H Q => ∃ a dx fs tb, x = .ref a ∧ H a = some (.ins C dx fs) ∧ TyX K H y tb ∧ PySem.W.notFirst K C tb = true ∧ sp [x, y] H (fun v H' => ∃ c, v = .bl c ∧ Q (.bl (if neg then !c else c)) H') E0
section
variable {X : Cx} {n : Nat} {CX : CXT} {C f : Addr} {fd : FuncData} {ps : List Str} {sp : Sp}
theorem looks_of {pins : List (Addr × Obj)} {σ : St} {H : Hp} {s : Shared} {y : V} {u tb : Value} (I : Inv X pins σ H s) (ry : RelV y u) (t : TyX X.K H y tb) : PySem.W.Looks (model X.prog X.w) s.heap (typeOf u) tb := by
  obtain ⟨P, Z, p, hx⟩ := kit_of I ry t
  exact Z.ty _ _ I.kIn p
theorem run_own {A : Around} {pins : List (Addr × Obj)} {σ : St} {H : Hp} {s : Shared} {x y : V} {u v : Value} {R0 : VK} {R : Value → Shared → Prop} (F : FnOk X.prog X.w X.K X.mg X.base CX n f fd ps sp) (hb : Binds X.K fd ps []) (hx : Passes CX X E0) (hr : Room n A) (fr : A.frames = X.A.frames)
    (I : Inv X pins σ H s) (rx : RelV x u) (ry : RelV y v) (hsp : sp [x, y] H R0 E0) (hR : ∀ z w H' s', Inv X pins σ H' s' → RelV z w → R0 z H' → R w s') :
    wpAny (model X.prog X.w) A (call (.ref f) [u, v]) R X.xe s := by
  have e0 : Env0 X.prog X.w X.K X.mg X.base A X.stack s H := by
    have e := I.env0
    exact ⟨by rw [fr]; exact e.frames, e.mod, e.bs, e.bsz, e.funs, e.frf, e.hok, e.bare⟩
  have hl := F.len _ _ _ _ hsp
  have r2 : Vals [x, y] [u, v] := .cons rx (.cons ry .nil)
  refine wpAny_call (codeAny_mono (F.run A X.stack s H ⟨[u, v], []⟩ [u, v] [x, y] _ E0 hr e0 (by
    have := hb s [u, v] I.kIn (by simpa using hl)
    simpa using this) r2 hsp) fun r s' hq => ?_)
  cases r with
  | error e => exact hx pins σ H s e s' I hq
  | ok fl =>
    cases fl with
    | ret w =>
      obtain ⟨z, H', I', rz, q⟩ := I.after hq
      exact hR z w H' s' I' rz q
    | next => exact False.elim hq
    | brk => exact False.elim hq
    | cont => exact False.elim hq
theorem op_eqO (F : FnOk X.prog X.w X.K X.mg X.base CX n f fd ps sp) (hr : Room n X.A) (hs : PySem.W.findIn X.K (.ref C) "__eq__" = some (some (.ref f))) (hf : PySem.W.isFn X.K (.ref f) = true) (hb : Binds X.K fd ps []) (hx : Passes CX X E0) :
    OpR X (compareOp .Eq) (rOwnEq X.K C sp false) := by
  intro pins s σ H x y u v Q I rx ry h
  obtain ⟨a, dx, fs, tb, rfl, ha, ty, hn, hsp⟩ := h
  cases rx
  obtain ⟨mA, J, _⟩ := ins_get I.hok ha
  obtain ⟨od, J, _⟩ := J.look
  obtain ⟨m, hF⟩ := I.fr
  refine PySem.W.cmp_K (op := .Eq) (tb := tb) hr.units0 hF I.ok.mod.kin J (looks_of I ry ty) hn hs hf ?_
  refine run_own (x := .ref a) F hb hx hr rfl I rfl ry hsp fun z w H' s' I' rz q => ?_
  obtain ⟨c, rfl, q⟩ := q
  cases rz
  exact ⟨.bl c, H', I', rfl, q⟩
theorem op_neO (F : FnOk X.prog X.w X.K X.mg X.base CX n f fd ps sp) (hr : Room (n + 1) X.A) (hs : PySem.W.findIn X.K (.ref C) "__eq__" = some (some (.ref f))) (hf : PySem.W.isFn X.K (.ref f) = true) (hb : Binds X.K fd ps []) (hx : Passes CX X E0)
    (hne : PySem.W.findIn X.K (.ref C) "__ne__" = some (some (.builtin "object.__ne__"))) (hm : PySem.W.mroIn X.K C (.type "object") = some true) : OpR X (compareOp .NotEq) (rOwnEq X.K C sp true) := by
  intro pins s σ H x y u v Q I rx ry h
  obtain ⟨a, dx, fs, tb, rfl, ha, ty, hn, hsp⟩ := h
  cases rx
  obtain ⟨mA, J, _⟩ := ins_get I.hok ha
  obtain ⟨od, J, _⟩ := J.look
  refine ne_K (by have := hr.un; omega) I.kIn J (looks_of I ry ty) hn hs hf hne hm ?_
  refine run_own (x := .ref a) F hb hx hr.in1 rfl I rfl ry hsp fun z w H' s' I' rz q => ?_
  obtain ⟨c, rfl, q⟩ := q
  cases rz
  exact ⟨c, rfl, .bl (!c), H', I', rfl, q⟩
end
end L2.My
end
section
set_option Elab.async false
set_option linter.all false
set_option maxRecDepth 100000
set_option maxHeartbeats 4000000
/-! A tree is made, or BadTree is raised. -/
namespace L2.My
open PySem PySem.Spec PyProof.Rows
/-- the first part that is none -/
def badT (H : Hp) (h l n : V) : Option Str := if belowV 9 h = true then (if leavesB H (iV h) l = true then (if nodesB H (iV h) ((tupOf H l).getD []) n = true then none else some "nodes") else some "leaves") else some "height"
structure TrC (K : PySem.W.Frag) (C : Addr) : Prop where
  cls : Cls K C
  na : ∀ f ∈ (["height", "leaves", "nodes"] : List Str), NoAttr K C f
def spPart (C : Addr) : Sp := fun vs H Q _ => ∃ a v, vs = [.ref a, v] ∧ H a = some (exo a C none) ∧ ∀ dx H2, H dx = none → dx ≠ a → H2 = upd (upd H dx (exd dx [("part", v)])) a (exo a C (some dx)) → Q .non H2
/-- the facts of BadTree -/
structure BadC (P : Program) (w : World) (K : PySem.W.Frag) (mg : Str → Option Value) (base : Heap) (C : Addr) where
  x : XC K C
  no : PySem.W.findIn K (.ref C) "part" = some none
  fI : Addr
  fd : FuncData
  i : PySem.W.findIn K (.ref C) "__init__" = some (some (.ref fI))
  t : PySem.W.typeIn K (.ref fI) = some (.type "function")
  F : FnOk P w K mg base CX0 1 fI fd ["self", "part"] (spPart C)
  b : Binds K fd ["self", "part"] []
  g : mg "BadTree" = some (.ref C)
  P0 : Addr
  gP : mg "PostError" = some (.ref P0)
  ve : mg "ValueError" = none
  kP : PySem.W.kitOne K (.ref C) (.ref P0) = some true
  kV : PySem.W.kitOne K (.ref C) (.type "ValueError") = some true
  te : PySem.W.exmOne K (.ref C) (.ref C) = some true
theorem bad_of {C : Addr} {H1 : Hp} {v : V} {Q : XK} (h : ∀ H2 d, Same H1 H2 → H1 d = none → H2 d = some (.xd [("part", v)]) → Q (.ref C) (some d) H2) :
    [v].length ≤ 1000 ∧ ∀ a, H1 a = none → spPart C (.ref a :: ([v] ++ [])) (upd H1 a (exo a C none)) (fun u H2 => u = .non ∧ ∃ (d : Addr) (fs : List (Str × V)), H2 a = some (exo a C (some d)) ∧ H2 d = some (exd d fs) ∧ H1 d = none ∧ Q (.ref C) (some d) (upd (del H2 a) d (.xd fs))) (fun _ _ _ => False) := by
  refine ⟨by show 1 ≤ 1000; decide, fun a ha => ⟨a, v, rfl, upd_same, fun dx H2 hdx ne e => ⟨rfl, dx, [("part", v)], ?_, ?_, ?_, ?_⟩⟩⟩
  · rw [e, upd_same]
  · rw [e, upd_ne ne, upd_same]
  · rw [upd_ne ne] at hdx; exact hdx
  · have hd1 : H1 dx = none := by rw [upd_ne ne] at hdx; exact hdx
    refine h _ dx (fun p o hp => ?_) hd1 upd_same
    have n1 : p ≠ dx := fun z => by rw [z, hd1] at hp; cases hp
    have n2 : p ≠ a := fun z => by rw [z, ha] at hp; cases hp
    rw [upd_ne n1]
    show (if p = a then none else H2 p) = some o
    rw [if_neg n2, e, upd_ne n2, upd_ne n1, upd_ne n2]
    exact hp
abbrev sBad : Stmt := mB 0
def spTree (C B : Addr) : Sp := fun vs H Q E => ∃ b x dx h l n, vs = [.ref x, h, l, n] ∧ H x = some (.ins C dx []) ∧ Thg b H h ∧ Thg b H l ∧ Thg b H n ∧
  (badT H h l n = none → ∀ H', BL [x] H H' → H' x = some (.ins C dx [("height", h), ("leaves", l), ("nodes", n)]) → Q .non H') ∧
  (∀ z, badT H h l n = some z → ∀ H' d, Same H H' → H d = none → H' d = some (.xd [("part", .str z)]) → E (.ref B) (some d) H')
theorem leavesB_tup {H : Hp} {h : Nat} {v : V} (e : leavesB H h v = true) : ∃ xs, tupOf H v = some xs := by
  cases z : tupOf H v with
  | none => rw [leavesB_no z] at e; cases e
  | some xs => exact ⟨xs, rfl⟩
theorem leavesB_bl {b : Addr} {H H' : Hp} {h : Nat} {v : V} (t : Thg b H v) (s : BL [b] H H') : leavesB H' h v = leavesB H h v := by
  cases e : tupOf H v with
  | none => rw [leavesB_no e, leavesB_no ((tupOf_bl t s).trans e)]
  | some xs =>
    obtain ⟨a, _, _, _, q⟩ := tupOf_sub t e
    rw [leavesB_at e, leavesB_at ((tupOf_bl t s).trans e)]
    have qf : ∀ x ∈ xs.filter notNon, Thg b H x := fun x hx => q x (List.mem_filter.mp hx).1
    rw [all_congr (p := memB H') (q := memB H) fun x hx => by unfold memB; rw [tupOf_bl (qf x hx) s], List.map_congr_left (f := nameV H') (g := nameV H) fun x hx => by unfold nameV; rw [tupOf_bl (qf x hx) s]]
theorem nodesB_bl {b : Addr} {H H' : Hp} {h : Nat} {ls : List V} {v : V} (t : Thg b H v) (s : BL [b] H H') : nodesB H' h ls v = nodesB H h ls v := by
  cases e : tupOf H v with
  | none => rw [nodesB_no e, nodesB_no ((tupOf_bl t s).trans e)]
  | some xs =>
    obtain ⟨a, _, _, _, q⟩ := tupOf_sub t e
    rw [nodesB_at e, nodesB_at ((tupOf_bl t s).trans e)]
    rw [all_congr (p := keptB H' h ls) (q := keptB H h ls) fun x hx => keptB_bl (q x hx) s, List.map_congr_left (f := rowI H') (g := rowI H) fun x hx => rowI_bl (q x hx) s]
theorem badT_bl {b : Addr} {H H' : Hp} {h l n : V} (tl : Thg b H l) (tn : Thg b H n) (s : BL [b] H H') : badT H' h l n = badT H h l n := by
  unfold badT
  rw [leavesB_bl tl s, tupOf_bl tl s, nodesB_bl tn s]
section
variable {P : Program} {w : World} {K : PySem.W.Frag} {mg : Str → Option Value} {base : Heap} {C B : Addr}
theorem scBad : FnScope ["self", "part"] ["self", "part"] (defScope sBad) := ⟨rfl, rfl, rfl, by decide +kernel, rfl, by decide +kernel, by decide +kernel⟩
theorem ok_bad {f : Addr} {fd : FuncData} (F : Fun K "__init__" "BadTree.__init__" sBad f fd) (T : OexC K C) (hno : PySem.W.findIn K (.ref C) "part" = some none) : FnOk P w K mg base CX0 1 f fd ["self", "part"] (spPart C) := by
  refine F.ok scBad (fun vs H Q E h => ?_) (fun cdv A outer s H vs Q E hr h => ?_)
  · obtain ⟨a, v, rfl, _⟩ := h
    rfl
  · obtain ⟨a, v, rfl, ha, q⟩ := h
    exact ⟨_, pss_one (ps_ost (pv 0) (pv 1)), ⟨_, rfl, _, rfl, a, C, rfl, T, hno, .inl ⟨ha, fun dx n ne => q dx _ n ne rfl⟩⟩⟩
theorem scTr : FnScope ["self", "height", "leaves", "nodes"] ["self", "height", "leaves", "nodes"] (defScope (mT 0)) := ⟨rfl, rfl, rfl, by decide +kernel, rfl, by decide +kernel, by decide +kernel⟩
theorem ok_tree {f : Addr} {fd : FuncData} {k : Nat} (F : Fun K "__init__" "Tree.__init__" (mT 0) f fd) (T : Tx mg) (c : TrC K C) (N : BadC P w K mg base B) (cB : Cal P w K mg base (k + 4) "is_below" ["bound", "thing"] spBelow) (cL : Cal P w K mg base (k + 4) "is_leaves" ["height", "thing"] spLeav) (cN : Cal P w K mg base (k + 4) "is_nodes" ["height", "leaves", "thing"] spNods) :
    FnOk P w K mg base (CX P w) (k + 5) f fd ["self", "height", "leaves", "nodes"] (spTree C B) := by
  obtain ⟨t1, h1⟩ := T.mh
  refine F.okX scTr (fun vs H Q E h => ?_) (fun cdv A outer s H vs Q E hr h => ?_)
  · obtain ⟨b, x, dx, h, l, n, rfl, _⟩ := h
    rfl
  · obtain ⟨b, x, dx, h, l, n, rfl, hx, th, tl, tn, q, qe⟩ := h
    have tk := takes_of (X := cxOf (CX P w) P w K mg base ["self", "height", "leaves", "nodes"] "Tree.__init__" (defScope (mT 0)) f cdv A outer s H E) (E := E) rfl rfl rfl rfl
    refine ⟨_, (pss_cons (ps_if (pt_not (pt_val (pe_c cB hr (by omega) (by rfl) (pa_cons (pe_op op_add (pe_glob (v := .int 8) (by rfl) h1 ⟨_, rfl⟩) pe_int) (pa_cons (pv 1) pa_nil))))) (pss_one (ps_raise rfl tk (pmk_oex N.x.o N.i N.t N.F (hr.mono (by omega)) N.b .nil pass0 (by rfl) N.g (pa_cons pe_str pa_nil)))) pss_nil) (pss_cons (ps_if (pt_not (pt_val (pe_c cL hr (by omega) (by rfl) (pa_cons (pv 1) (pa_cons (pv 2) pa_nil))))) (pss_one (ps_raise rfl tk (pmk_oex N.x.o N.i N.t N.F (hr.mono (by omega)) N.b .nil pass0 (by rfl) N.g (pa_cons pe_str pa_nil)))) pss_nil) (pss_cons (ps_if (pt_not (pt_val (pe_c cN hr (by omega) (by rfl) (pa_cons (pv 1) (pa_cons (pv 2) (pa_cons (pv 3) pa_nil)))))) (pss_one (ps_raise rfl tk (pmk_oex N.x.o N.i N.t N.F (hr.mono (by omega)) N.b .nil pass0 (by rfl) N.g (pa_cons pe_str pa_nil)))) pss_nil) (pss_cons (ps_fld (pv 0) (pv 1) rfl) (pss_cons (ps_fld (pv 0) (pv 2) rfl) (pss_one (ps_fld (pv 0) (pv 3) rfl))))))), ?_⟩
    unfold badT at q qe
    refine ⟨_, _, rfl, rfl, _, rfl, b, _, h, rfl, th, _, rfl, ?_⟩
    have e9 : belowV ((8 : Int) + 1) h = belowV 9 h := rfl
    rw [e9]
    cases hb : belowV 9 h with
    | false =>
      rw [hb] at qe
      exact iteT (bad_of fun H2 d s n e => qe "height" (by rw [if_neg Bool.false_ne_true]) H2 d s n e)
    | true =>
    rw [hb, if_pos rfl] at q qe
    obtain ⟨b1, b2, b3⟩ := below_int hb
    generalize iV h = hn at *
    subst b1
    refine iteF ⟨_, rfl, _, rfl, b, hn, l, rfl, by omega, tl, fun H2 s2 => ⟨_, rfl, ?_⟩⟩
    cases hl : leavesB H hn l with
    | false =>
      rw [hl] at qe
      exact iteT (bad_of fun H3 d s n e => qe "leaves" (by rw [if_neg Bool.false_ne_true]) H3 d (s2.trans s) (s2.free n) e)
    | true =>
    rw [hl, if_pos rfl] at q qe
    obtain ⟨ls, els⟩ := leavesB_tup hl
    obtain ⟨la, rfl, hla, _, _⟩ := tupOf_sub tl els
    rw [els, Option.getD_some] at q qe
    refine iteF ⟨_, rfl, _, rfl, _, rfl, b, hn, la, ls, n, rfl, by omega, s2 _ _ hla, tn.same s2, fun H3 s3 => ⟨_, rfl, ?_⟩⟩
    rw [nodesB_bl tn (.same s2)]
    have s23 := s2.trans s3
    cases hnn : nodesB H hn ls n with
    | false =>
      rw [hnn] at qe
      exact iteT (bad_of fun H4 d s n e => qe "nodes" (by rw [if_neg Bool.false_ne_true]) H4 d (s23.trans s) (s23.free n) e)
    | true =>
    rw [hnn] at q
    have hx3 := s23 _ _ hx
    refine iteF ⟨_, rfl, _, rfl, x, C, dx, _, rfl, hx3, c.cls, c.na _ (by simp), by show 0 < 1000; decide, ?_⟩
    refine ⟨_, rfl, _, rfl, x, C, dx, _, rfl, upd_same, c.cls, c.na _ (by simp), by show 1 < 1000; decide, ?_⟩
    refine ⟨_, rfl, _, rfl, x, C, dx, _, rfl, upd_same, c.cls, c.na _ (by simp), by show 2 < 1000; decide, ?_⟩
    refine q rfl _ (BL.trans (.same s23) (BL.trans (.upd (by simp)) (BL.trans (.upd (by simp)) (.upd (by simp))))) (by rw [upd_same]; rfl)
end
end L2.My
end
section
set_option Elab.async false
set_option linter.all false
set_option maxRecDepth 100000
set_option maxHeartbeats 4000000
/-! Trees as data. -/
namespace L2.My
open PySem PySem.Spec PyProof.Rows
abbrev Lf : Type := Option (Str × Int)
abbrev Nd : Type := (Nat × Nat) × (Int × List Nat)
def nN (l : List Nat) : List V := l.map fun (j : Nat) => V.int j
def LfAt (H : Hp) (v : V) (l : Lf) : Prop := match l with
  | none => v = .non
  | some (z, i) => ∃ a, v = .ref a ∧ H a = some (.tup [.str z, .int i])
def NdAt (H : Hp) (v : V) (n : Nd) : Prop := ∃ a na ca, v = .ref a ∧ H a = some (.tup [.ref na, .int n.2.1, .ref ca]) ∧ H na = some (.tup [.int (n.1.1 : Nat), .int (n.1.2 : Nat)]) ∧ H ca = some (.tup (nN n.2.2))
def LvsAt (H : Hp) (a : Addr) (ls : List Lf) : Prop := ∃ vs, H a = some (.tup vs) ∧ Paired (LfAt H) vs ls
def NdsAt (H : Hp) (a : Addr) (ns : List Nd) : Prop := ∃ vs, H a = some (.tup vs) ∧ Paired (NdAt H) vs ns
theorem LfAt.tk {H H' : Hp} {v : V} {l : Lf} (h : LfAt H v l) (t : TK H H') : LfAt H' v l := by
  cases l with
  | none => exact h
  | some p =>
    obtain ⟨a, e, h1⟩ := h
    exact ⟨a, e, t _ _ h1⟩
theorem NdAt.tk {H H' : Hp} {v : V} {n : Nd} (h : NdAt H v n) (t : TK H H') : NdAt H' v n := by
  obtain ⟨a, na, ca, e, h1, h2, h3⟩ := h
  exact ⟨a, na, ca, e, t _ _ h1, t _ _ h2, t _ _ h3⟩
theorem LvsAt.tk {H H' : Hp} {a : Addr} {ls : List Lf} (h : LvsAt H a ls) (t : TK H H') : LvsAt H' a ls := by
  obtain ⟨vs, h1, h2⟩ := h
  exact ⟨vs, t _ _ h1, Paired.mapP h2 fun _ _ z => z.tk t⟩
theorem NdsAt.tk {H H' : Hp} {a : Addr} {ls : List Nd} (h : NdsAt H a ls) (t : TK H H') : NdsAt H' a ls := by
  obtain ⟨vs, h1, h2⟩ := h
  exact ⟨vs, t _ _ h1, Paired.mapP h2 fun _ _ z => z.tk t⟩
def dLf (l : Lf) : PyData := match l with
  | none => .none
  | some (z, i) => .tuple [.str z, .int i]
def dNats (l : List Nat) : PyData := .tuple (l.map fun (j : Nat) => PyData.int j)
def dNd (n : Nd) : PyData := .tuple [.tuple [.int (n.1.1 : Nat), .int (n.1.2 : Nat)], .int n.2.1, dNats n.2.2]
def dLvs (ls : List Lf) : PyData := .tuple (ls.map dLf)
def dNds (ns : List Nd) : PyData := .tuple (ns.map dNd)
/-! ### they are told by the heap -/
theorem dpNats {K : PySem.W.Frag} {H : Hp} : ∀ l : List Nat, DpAll K H (nN l) (l.map fun (j : Nat) => PyData.int j)
  | [] => .nil
  | j :: r => .cons (.int _) (dpNats r)
theorem dpLf {K : PySem.W.Frag} {H : Hp} {v : V} {l : Lf} (h : LfAt H v l) : Dp K H v (dLf l) := by
  cases l with
  | none => cases h; exact .non
  | some p =>
    obtain ⟨a, rfl, h1⟩ := h
    exact .tup (.of h1) (.cons (.str _) (.cons (.int _) .nil))
theorem dpNd {K : PySem.W.Frag} {H : Hp} {v : V} {n : Nd} (h : NdAt H v n) : Dp K H v (dNd n) := by
  obtain ⟨a, na, ca, rfl, h1, h2, h3⟩ := h
  exact .tup (.of h1) (.cons (.tup (.of h2) (.cons (.int _) (.cons (.int _) .nil))) (.cons (.int _) (.cons (.tup (.of h3) (dpNats _)) .nil)))
theorem dp_map {K : PySem.W.Frag} {H : Hp} {α : Type} {R : V → α → Prop} {f : α → PyData} {vs : List V} {xs : List α} (h : Paired R vs xs) (hr : ∀ v x, R v x → Dp K H v (f x)) : DpAll K H vs (xs.map f) := by
  induction h with
  | nil => exact .nil
  | cons r _ ih => exact .cons (hr _ _ r) ih
theorem dpLvs {K : PySem.W.Frag} {H : Hp} {a : Addr} {ls : List Lf} (h : LvsAt H a ls) : Dp K H (.ref a) (dLvs ls) := by
  obtain ⟨vs, h1, h2⟩ := h
  exact .tup (.of h1) (dp_map h2 fun _ _ r => dpLf r)
theorem dpNds {K : PySem.W.Frag} {H : Hp} {a : Addr} {ns : List Nd} (h : NdsAt H a ns) : Dp K H (.ref a) (dNds ns) := by
  obtain ⟨vs, h1, h2⟩ := h
  exact .tup (.of h1) (dp_map h2 fun _ _ r => dpNd r)
/-! ### equal just if they are the same -/
theorem eqv_int (i j : Int) : PyData.eqv (.int i) (.int j) = decide (i = j) := by
  rw [PyData.eqv, Bool.eq_iff_iff, beq_iff_eq, decide_eq_true_iff]
theorem eqv_lf (a b : Lf) : PyData.eqv (dLf a) (dLf b) = decide (a = b) := by
  cases a with
  | none =>
    cases b with
    | none => rfl
    | some p => rfl
  | some p =>
    obtain ⟨z, i⟩ := p
    cases b with
    | none => rfl
    | some q =>
      obtain ⟨y, j⟩ := q
      show PyData.eqv (.tuple [.str z, .int i]) (.tuple [.str y, .int j]) = _
      rw [PyData.eqv, PyData.eqvAll, PyData.eqvAll, PyData.eqvAll, eqv_s, eqv_int, Bool.and_true, ← Bool.decide_and]
      apply decide_eq_decide.mpr
      simp
theorem eqv_nats (a b : List Nat) : PyData.eqv (dNats a) (dNats b) = decide (a = b) := by
  unfold dNats
  rw [PyData.eqv]
  exact eqvAll_map (fun x y => by rw [eqv_int]; apply decide_eq_decide.mpr; omega) a b
theorem eqv_nd (a b : Nd) : PyData.eqv (dNd a) (dNd b) = decide (a = b) := by
  obtain ⟨⟨p, q⟩, i, l⟩ := a
  obtain ⟨⟨p', q'⟩, i', l'⟩ := b
  unfold dNd
  simp only [PyData.eqv, PyData.eqvAll, eqv_nats, eqv_int, Bool.and_true]
  rw [Bool.eq_iff_iff]
  simp only [Bool.and_eq_true, decide_eq_true_eq, beq_iff_eq, Prod.mk.injEq, Int.natCast_inj]
theorem eqv_lvs (a b : List Lf) : PyData.eqv (dLvs a) (dLvs b) = decide (a = b) := by
  unfold dLvs
  rw [PyData.eqv]
  exact eqvAll_map eqv_lf a b
theorem eqv_nds (a b : List Nd) : PyData.eqv (dNds a) (dNds b) = decide (a = b) := by
  unfold dNds
  rw [PyData.eqv]
  exact eqvAll_map eqv_nd a b
/-! ### small enough -/
structure Nice (d : PyData) : Prop where
  ls : d.leavesShort 42 = true
  sh : d.showable = true
  cl : d.canLay0 = true
  hd : d.hasDict = false
structure NiceAll (ds : List PyData) : Prop where
  ls : PyData.leavesShortAll 42 ds = true
  sh : PyData.showableAll ds = true
  cl : PyData.canLayAll0 ds = true
  hd : PyData.hasDictAll ds = false
theorem NiceAll.nil : NiceAll [] := ⟨rfl, rfl, rfl, rfl⟩
theorem NiceAll.cons {d : PyData} {ds : List PyData} (h : Nice d) (k : NiceAll ds) : NiceAll (d :: ds) :=
  ⟨by rw [PyData.leavesShortAll, h.ls, k.ls]; rfl, by rw [PyData.showableAll, h.sh, k.sh]; rfl, by rw [PyData.canLayAll0, h.cl, k.cl]; rfl, by rw [PyData.hasDictAll, h.hd, k.hd]; rfl⟩
theorem NiceAll.map {α : Type} {f : α → PyData} : ∀ {xs : List α}, (∀ x ∈ xs, Nice (f x)) → NiceAll (xs.map f)
  | [], _ => .nil
  | x :: r, h => .cons (h x List.mem_cons_self) (NiceAll.map fun y hy => h y (List.mem_cons_of_mem _ hy))
theorem Nice.tup {ds : List PyData} (h : NiceAll ds) : Nice (.tuple ds) := ⟨by rw [PyData.leavesShort]; exact h.ls, by rw [PyData.showable]; exact h.sh, by rw [PyData.canLay0]; exact h.cl, by rw [PyData.hasDict]; exact h.hd⟩
theorem Nice.lst {ds : List PyData} (h : NiceAll ds) : Nice (.list ds) := ⟨by rw [PyData.leavesShort]; exact h.ls, by rw [PyData.showable]; exact h.sh, by rw [PyData.canLay0]; exact h.cl, by rw [PyData.hasDict]; exact h.hd⟩
theorem Nice.non : Nice .none := ⟨rfl, rfl, rfl, rfl⟩
theorem Nice.boo (b : Bool) : Nice (.bool b) := ⟨rfl, rfl, rfl, rfl⟩
theorem Nice.int {i : Int} (h : i.natAbs ≤ 10 ^ 40) : Nice (.int i) := by
  have h1 : i.natAbs < 10 ^ 41 := Nat.lt_of_le_of_lt h (by decide)
  refine ⟨?_, ?_, rfl, rfl⟩
  · rw [PyData.leavesShort, decide_eq_true_iff]
    show (Str.ofString (toString i)).length ≤ 42
    rw [PySem.ofString_length]
    exact int_text_length_le10 (k := 41) (by decide) h1
  · rw [PyData.showable, decide_eq_true_iff]
    exact Nat.lt_of_lt_of_le (PySem.Flt.log2_lt_of (by decide) (Nat.lt_trans h1 (show 10 ^ 41 < 2 ^ 200 by decide))) (by decide)
theorem Nice.str {z : Str} (h : ∀ c ∈ z.cps.toList, c < 128) : Nice (.str z) := by
  refine ⟨?_, rfl, ?_, rfl⟩
  · rw [PyData.leavesShort, List.all_eq_true]
    intro c hc
    have := h c hc
    rw [decide_eq_true_iff]
    exact Nat.lt_trans this (by decide)
  · rw [PyData.canLay0]
    unfold PyData.strOk
    rw [Array.all_eq_true_iff_forall_mem]
    intro x hx
    have := h x (by simpa using hx)
    rw [decide_eq_true_eq]
    omega
theorem word_low {z : Str} (h : wordB z = true) : z.length ≤ 12 ∧ ∀ c ∈ z.cps.toList, c < 128 := by
  unfold wordB at h
  simp only [Bool.and_eq_true, decide_eq_true_eq, List.all_eq_true] at h
  refine ⟨h.2.1, fun c hc => ?_⟩
  have := h.2.2 c hc
  unfold signB at this
  rw [Bool.and_eq_true, decide_eq_true_eq, decide_eq_true_eq] at this
  omega
/-- a good leaf, a good node -/
def GLf (l : Lf) : Prop := ∀ z i, l = some (z, i) → wordB z = true ∧ 0 ≤ i ∧ i ≤ maxI
def GNd (n : Nd) : Prop := n.1.1 ≤ 8 ∧ 1 ≤ n.1.1 ∧ n.1.2 < 128 ∧ 0 ≤ n.2.1 ∧ n.2.1 ≤ maxI ∧ n.2.2.length ≤ 256 ∧ ∀ j ∈ n.2.2, j < 256
theorem nice_lf {l : Lf} (h : GLf l) : Nice (dLf l) := by
  cases l with
  | none => exact .non
  | some p =>
    obtain ⟨z, i⟩ := p
    obtain ⟨h1, h2, h3⟩ := h z i rfl
    have h3' : i ≤ 10 ^ 40 := h3
    exact .tup (.cons (.str (word_low h1).2) (.cons (.int (by omega)) .nil))
theorem nice_nd {n : Nd} (h : GNd n) : Nice (dNd n) := by
  obtain ⟨h1, h2, h3, h4, h5, _, h6⟩ := h
  have h5' : n.2.1 ≤ 10 ^ 40 := h5
  exact .tup (.cons (.tup (.cons (.int (by omega)) (.cons (.int (by omega)) .nil))) (.cons (.int (by omega)) (.cons (.tup (.map fun j hj => .int (by have := h6 j hj; omega))) .nil)))
theorem bulk_map {α : Type} {f : α → PyData} {c : Nat} : ∀ {xs : List α}, (∀ x ∈ xs, (f x).bulk + 1 ≤ c) → PyData.bulkAll (xs.map f) ≤ c * xs.length
  | [], _ => by simp [PyData.bulkAll]
  | x :: r, h => by
    have h1 := h x List.mem_cons_self
    have h2 := bulk_map (f := f) (c := c) (xs := r) fun y hy => h y (List.mem_cons_of_mem _ hy)
    rw [List.map_cons, PyData.bulkAll, List.length_cons, Nat.mul_add]
    omega
theorem bulk_lf {l : Lf} (h : GLf l) : (dLf l).bulk + 1 ≤ 16 := by
  cases l with
  | none => show 0 + 1 ≤ 16; decide
  | some p =>
    obtain ⟨z, i⟩ := p
    have h1 := (word_low (h z i rfl).1).1
    have e : z.cps.size ≤ 12 := h1
    show PyData.bulk (.tuple [.str z, .int i]) + 1 ≤ 16
    simp only [PyData.bulk, PyData.bulkAll]
    omega
theorem bulk_nd {n : Nd} (h : GNd n) : (dNd n).bulk + 1 ≤ 262 := by
  have h1 := h.2.2.2.2.2.1
  have h2 : PyData.bulkAll (n.2.2.map fun (j : Nat) => PyData.int j) ≤ 1 * n.2.2.length := bulk_map fun j _ => by simp [PyData.bulk]
  unfold dNd dNats
  simp only [PyData.bulk, PyData.bulkAll]
  omega
theorem short_tree {ds : List PyData} {ls : List Lf} {ns : List Nd} (hd : ∀ d ∈ ds, d = .tuple [] → True) (hl : ∀ l ∈ ls, GLf l) (hn : ∀ n ∈ ns, GNd n) (l1 : ls.length ≤ 256) (n1 : ns.length ≤ 1152) : (dLvs ls).bulk + (dNds ns).bulk ≤ 306000 := by
  have h1 : (dLvs ls).bulk ≤ 16 * ls.length := by
    unfold dLvs
    rw [PyData.bulk]
    exact bulk_map fun l hm => bulk_lf (hl l hm)
  have h2 : (dNds ns).bulk ≤ 262 * ns.length := by
    unfold dNds
    rw [PyData.bulk]
    exact bulk_map fun l hm => bulk_nd (hn l hm)
  omega
theorem fits_of {d : PyData} (n : Nice d) (h : d.bulk ≤ 306100) : d.shown.length ≤ sizeLine := by
  have h1 := PyData.shown_le_bulk 42 (by decide) d n.ls
  have h2 : (42 + 2) * d.bulk ≤ 44 * 306100 := Nat.mul_le_mul_left 44 h
  rw [sizeLine_eq]
  omega
end L2.My
end
section
set_option Elab.async false
set_option linter.all false
set_option maxRecDepth 100000
set_option maxHeartbeats 4000000
/-! What passed the judges is a tree; trees as they are drawn pass them. -/
namespace L2.My
open PySem PySem.Spec PyProof.Rows
theorem asc_tail {α : Type} {lt : α → α → Bool} {x : α} {r : List α} (h : ascBy lt (x :: r) = true) : ascBy lt r = true := by
  cases r with
  | nil => rfl
  | cons y r => exact (Bool.and_eq_true_iff.mp (show (lt x y && ascBy lt (y :: r)) = true from h)).2
theorem asc_gt : ∀ {r : List Int} {x : Int}, ascBy ltI (x :: r) = true → ∀ z ∈ r, x < z
  | [], _, _, z, hz => absurd hz (by simp)
  | y :: r, x, h, z, hz => by
    obtain ⟨h1, h2⟩ := Bool.and_eq_true_iff.mp (show (ltI x y && ascBy ltI (y :: r)) = true from h)
    have hxy : x < y := of_decide_eq_true h1
    rcases List.mem_cons.mp hz with e | e
    · rw [e]; exact hxy
    · have := asc_gt h2 z e
      omega
theorem asc_len {N : Int} : ∀ {l : List Int} {lo : Int}, ascBy ltI l = true → (∀ x ∈ l, lo ≤ x ∧ x < N) → lo ≤ N → (l.length : Int) ≤ N - lo
  | [], lo, _, _, h => by simp; omega
  | x :: r, lo, h, hb, _ => by
    have hx := hb x List.mem_cons_self
    have ih := asc_len (l := r) (lo := x + 1) (asc_tail h) (fun z hz => ⟨by have := asc_gt h z hz; omega, (hb z (List.mem_cons_of_mem _ hz)).2⟩) (by omega)
    rw [List.length_cons]
    push_cast
    omega
theorem asc_map {α β : Type} {lt : α → α → Bool} {lt2 : β → β → Bool} {f : α → β} : ∀ {l : List α}, (∀ x ∈ l, ∀ y ∈ l, lt x y = true → lt2 (f x) (f y) = true) → ascBy lt l = true → ascBy lt2 (l.map f) = true
  | [], _, _ => rfl
  | [x], _, _ => rfl
  | x :: y :: r, hf, h => by
    obtain ⟨h1, h2⟩ := Bool.and_eq_true_iff.mp (show (lt x y && ascBy lt (y :: r)) = true from h)
    have ih := asc_map (lt := lt) (lt2 := lt2) (f := f) (l := y :: r) (fun a ha b hb => hf a (List.mem_cons_of_mem _ ha) b (List.mem_cons_of_mem _ hb)) h2
    show (lt2 (f x) (f y) && ascBy lt2 ((y :: r).map f)) = true
    rw [hf x List.mem_cons_self y (List.mem_cons_of_mem _ List.mem_cons_self) h1, ih]
    rfl
def codeI : List Int → Int
  | [a, b] => a * 128 + b
  | _ => 0
theorem code_lt {a b c d : Int} (h1 : 0 ≤ b) (h2 : b < 128) (h3 : 0 ≤ d) (h4 : d < 128) (h : HT.lexLt [a, b] [c, d] = true) : a * 128 + b < c * 128 + d := by
  rw [HT.lexLt_cons] at h
  by_cases e : a = c
  · rw [if_pos e, HT.lexLt_cons] at h
    by_cases e2 : b = d
    · rw [if_pos e2] at h
      exact absurd (show HT.lexLt [] [] = true from h) (by decide)
    · rw [if_neg e2, decide_eq_true_eq] at h
      omega
  · rw [if_neg e, decide_eq_true_eq] at h
    omega
theorem paired_map {α β : Type} {R : α → β → Prop} {f : α → β} : ∀ {xs : List α}, (∀ x ∈ xs, R x (f x)) → Paired R xs (xs.map f)
  | [], _ => .nil
  | x :: r, h => .cons (h x List.mem_cons_self) (paired_map fun y hy => h y (List.mem_cons_of_mem _ hy))
def lfD (H : Hp) (v : V) : Lf := match tupOf H v with
  | some [.str z, .int i] => some (z, i)
  | _ => none
def rowD (H : Hp) (v : V) : Nd := match tupOf H v with
  | some [n, l, c] => ((levV H n, atV H n), (intV l, ((tupOf H c).getD []).map iV))
  | _ => ((0, 0), (0, []))
theorem good_leaf {b : Addr} {H : Hp} {v : V} (t : Thg b H v) (e : memB H v = true) : LfAt H v (lfD H v) ∧ GLf (lfD H v) := by
  obtain ⟨y, ey⟩ := mem_name e
  obtain ⟨a, rfl, ha, _, q⟩ := tupOf_sub t ey
  have e2 := e
  rw [memB_at ey, Bool.and_eq_true] at e2
  cases y with
  | int i =>
    have ed : lfD H (.ref a) = some (nameV H (.ref a), i) := by unfold lfD; rw [ey]
    rw [ed]
    have hi : 0 ≤ i := of_decide_eq_true (show decide (0 ≤ i) = true from e2.2)
    refine ⟨⟨a, rfl, ha⟩, fun z j ej => ?_⟩
    cases ej
    exact ⟨e2.1, hi, (q (.int i) (by simp)).le⟩
  | _ => exact absurd e2.2 Bool.false_ne_true
theorem good_leaves {b : Addr} {H : Hp} {h : Nat} {v : V} (t : Thg b H v) (e : leavesB H h v = true) : ∃ la vs ls, v = .ref la ∧ tupOf H v = some vs ∧ vs.length = 2 ^ h ∧ LvsAt H la ls ∧ ls.length = 2 ^ h ∧ ∀ l ∈ ls, GLf l := by
  obtain ⟨vs, ev⟩ := leavesB_tup e
  obtain ⟨la, rfl, hla, _, q⟩ := tupOf_sub t ev
  rw [leavesB_at ev, Bool.and_eq_true, Bool.and_eq_true, decide_eq_true_eq] at e
  have each : ∀ x ∈ vs, LfAt H x (lfD H x) ∧ GLf (lfD H x) := fun x hx => by
    by_cases hn : notNon x = true
    · exact good_leaf (q x hx) (List.all_eq_true.mp e.2.1 x (List.mem_filter.mpr ⟨hx, hn⟩))
    · cases x with
      | non => exact ⟨rfl, fun z i h => by cases h⟩
      | _ => exact absurd rfl hn
  refine ⟨la, vs, vs.map (lfD H), rfl, ev, e.1, ⟨vs, hla, paired_map fun x hx => (each x hx).1⟩, by rw [List.length_map]; exact e.1, fun l hl => ?_⟩
  obtain ⟨x, hx, rfl⟩ := List.mem_map.mp hl
  exact (each x hx).2
theorem nats_of {n : Int} : ∀ {xs : List V}, xs.all (belowV n) = true → xs = nN (xs.map iV)
  | [], _ => rfl
  | x :: r, h => by
    rw [List.all_cons, Bool.and_eq_true] at h
    obtain ⟨h1, _, _⟩ := below_int h.1
    show x :: r = V.int (iV x : Nat) :: nN (r.map iV)
    rw [← nats_of h.2, ← h1]
theorem pow_le7 {h l : Nat} (hh : h ≤ 8) (hl : l ≠ 0) : (2 : Int) ^ (h - l) ≤ 128 := by
  have h1 : 2 ^ (h - l) ≤ 2 ^ 7 := Nat.pow_le_pow_right (by decide) (by omega)
  have h2 : ((2 ^ (h - l) : Nat) : Int) ≤ ((2 ^ 7 : Nat) : Int) := by exact_mod_cast h1
  push_cast at h2
  exact h2
theorem good_row {b : Addr} {H : Hp} {h : Nat} {lv : List V} {v : V} (hh : h ≤ 8) (hl : lv.length ≤ 256) (t : Thg b H v) (e : keptB H h lv v = true) : NdAt H v (rowD H v) ∧ GNd (rowD H v) ∧ rowI H v = [((rowD H v).1.1 : Int), ((rowD H v).1.2 : Int)] := by
  obtain ⟨a, na, l, c, rfl, ha, ea, e1, e2, e3, e4, tn, tl, tc, er⟩ := kept_of t e
  obtain ⟨na', rfl', hna, ena, hlev, hat, hni⟩ := node_of tn e1
  cases rfl'
  have ed : rowD H (.ref a) = ((levV H (.ref na), atV H (.ref na)), (intV l, ((tupOf H c).getD []).map iV)) := by unfold rowD; rw [ea]
  rw [ed, er, hni]
  cases l with
  | int i =>
    have hi : 0 ≤ i := of_decide_eq_true (show decide (0 ≤ i) = true from e3)
    cases ec : tupOf H c with
    | none => rw [asideB_no ec] at e4; cases e4
    | some xs =>
      obtain ⟨ca, rfl, hca, _, qc⟩ := tupOf_sub tc ec
      rw [asideB_at ec, Bool.and_eq_true, Bool.and_eq_true] at e4
      obtain ⟨f1, f2, _⟩ := e4
      have bl : ∀ x ∈ xs, iV x < 256 := fun x hx => by
        obtain ⟨_, z, _⟩ := below_int (List.all_eq_true.mp f1 x hx)
        omega
      have hlen : ((xs.map intV).length : Int) ≤ 256 - 0 := asc_len f2 (fun x hx => by
        obtain ⟨y, hy, rfl⟩ := List.mem_map.mp hx
        obtain ⟨_, z1, z2⟩ := below_int (List.all_eq_true.mp f1 y hy)
        omega) (by decide)
      rw [List.length_map] at hlen
      rw [Option.getD_some]
      have h7 := pow_le7 hh e2
      refine ⟨⟨a, na, ca, rfl, ha, hna, by rw [hca, ← nats_of f1]⟩, ⟨by show levV H (.ref na) ≤ 8; omega, by show 1 ≤ levV H (.ref na); omega, by show atV H (.ref na) < 128; omega, hi, tl.le, by rw [List.length_map]; omega, fun j hj => ?_⟩, rfl⟩
      obtain ⟨x, hx, rfl⟩ := List.mem_map.mp hj
      exact bl x hx
  | _ => exact absurd e3 Bool.false_ne_true
theorem good_nodes {b : Addr} {H : Hp} {h : Nat} {lv : List V} {v : V} (hh : h ≤ 8) (hl : lv.length ≤ 256) (t : Thg b H v) (e : nodesB H h lv v = true) : ∃ na ns, v = .ref na ∧ NdsAt H na ns ∧ ns.length ≤ 1152 ∧ ∀ n ∈ ns, GNd n := by
  cases ev : tupOf H v with
  | none => rw [nodesB_no ev] at e; cases e
  | some xs =>
    obtain ⟨na, rfl, hna, _, q⟩ := tupOf_sub t ev
    rw [nodesB_at ev, Bool.and_eq_true] at e
    obtain ⟨e1, e2⟩ := e
    have each := fun x hx => good_row hh hl (q x hx) (List.all_eq_true.mp e1 x hx)
    refine ⟨na, xs.map (rowD H), rfl, ⟨xs, hna, paired_map fun x hx => (each x hx).1⟩, ?_, fun n hn => ?_⟩
    · have a1 : ascBy ltI ((xs.map (rowI H)).map codeI) = true := asc_map (lt := HT.lexLt) (fun x hx y hy hxy => by
        obtain ⟨u, hu, rfl⟩ := List.mem_map.mp hx
        obtain ⟨w, hw, rfl⟩ := List.mem_map.mp hy
        obtain ⟨_, g1, r1⟩ := each u hu
        obtain ⟨_, g2, r2⟩ := each w hw
        rw [r1, r2] at hxy ⊢
        have k1 := g1.2.2.1
        have k2 := g2.2.2.1
        exact decide_eq_true (code_lt (by omega) (by omega) (by omega) (by omega) hxy)) e2
      have a2 := asc_len (N := 1152) (lo := 0) a1 (fun x hx => by
        rw [List.map_map] at hx
        obtain ⟨u, hu, rfl⟩ := List.mem_map.mp hx
        obtain ⟨_, g1, r1⟩ := each u hu
        show 0 ≤ codeI (rowI H u) ∧ codeI (rowI H u) < 1152
        rw [r1]
        have k1 := g1.1
        have k2 := g1.2.2.1
        show 0 ≤ ((rowD H u).1.1 : Int) * 128 + ((rowD H u).1.2 : Int) ∧ ((rowD H u).1.1 : Int) * 128 + ((rowD H u).1.2 : Int) < 1152
        omega) (by decide)
      rw [List.length_map, List.length_map] at a2
      rw [List.length_map]
      omega
    · obtain ⟨x, hx, rfl⟩ := List.mem_map.mp hn
      exact (each x hx).2.1
/-- what is told of a good tree -/
structure GTr (hn : Nat) (ls : List Lf) (ns : List Nd) : Prop where
  h8 : hn ≤ 8
  ll : ls.length ≤ 256
  gl : ∀ l ∈ ls, GLf l
  nl : ns.length ≤ 1152
  gn : ∀ n ∈ ns, GNd n
theorem good_tree {b : Addr} {H : Hp} {h l n : V} (tl : Thg b H l) (tn : Thg b H n) (e : badT H h l n = none) : ∃ hn la na ls ns, h = .int (hn : Nat) ∧ l = .ref la ∧ n = .ref na ∧ LvsAt H la ls ∧ NdsAt H na ns ∧ GTr hn ls ns := by
  unfold badT at e
  split at e
  · rename_i hb
    split at e
    · rename_i hl
      split at e
      · rename_i hnn
        obtain ⟨b1, b2, _⟩ := below_int hb
        have h8 : iV h ≤ 8 := by omega
        obtain ⟨la, vs, ls, rfl, ev, lv, hL, ll, gl⟩ := good_leaves tl hl
        have l256 : 2 ^ iV h ≤ 256 := Nat.le_trans (Nat.pow_le_pow_right (by decide) h8) (by decide)
        rw [ev, Option.getD_some] at hnn
        obtain ⟨na, ns, rfl, hN, nl, gn⟩ := good_nodes h8 (by omega) tn hnn
        exact ⟨iV h, la, na, ls, ns, b1, rfl, rfl, hL, hN, h8, by omega, gl, nl, gn⟩
      · cases e
    · cases e
  · cases e
end L2.My
end
section
set_option Elab.async false
set_option linter.all false
set_option maxRecDepth 100000
set_option maxHeartbeats 4000000
/-! Expressions that make things, as k50 has them; over the box. -/
namespace L2.My
open PySem PySem.Spec PyProof.Rows
def NoTup (H : Hp) (b : Addr) : Prop := ∀ xs, H b ≠ some (.tup xs)
theorem NoTup.ne {H : Hp} {a b : Addr} {xs : List V} (h : NoTup H b) (e : H a = some (.tup xs)) : a ≠ b := fun z => h xs (z ▸ e)
theorem BoxAt.nt {H : Hp} {b g : Addr} (h : BoxAt H b g) : NoTup H b := fun xs e => by
  obtain ⟨_, _, _, _, _, _, h1, _⟩ := h
  rw [h1] at e; cases e
def Stb (b : Addr) (P : Hp → Prop) : Prop := ∀ H H', P H → BL [b] H H' → P H'
def GT (b g : Addr) (P : Hp → Prop) (σ : St) (te : TE) : Prop := ∀ H (Q : VK), BoxAt H b g → P H → (∀ H' v, BL [b] H H' → BoxAt H' b g → Thg b H' v → Q v H') → te σ H Q
def GA (b g : Addr) (P : Hp → Prop) (σ : St) (n : Nat) (ta : TA) : Prop := ∀ H (Q : List V → Hp → Prop), BoxAt H b g → P H → (∀ H' vs, BL [b] H H' → BoxAt H' b g → (∀ v ∈ vs, Thg b H' v) → vs.length = n → Q vs H') → ta σ H Q
/-- a new list of things -/
def GL (b g : Addr) (P : Hp → Prop) (σ : St) (n : Nat) (te : TE) : Prop := ∀ H (Q : VK), BoxAt H b g → P H → (∀ H' l vs, BL [b] H H' → BoxAt H' b g → H l = none → H' l = some (.lst vs) → (∀ v ∈ vs, Thg b H' v) → vs.length = n → Q (.ref l) H') → te σ H Q
section
variable {b g : Addr} {P : Hp → Prop} {σ : St}
theorem ga_nil : GA b g P σ 0 tNil := fun H Q hB _ q => q H [] .refl hB (by simp) rfl
theorem ga_cons {n : Nat} {te : TE} {ta : TA} (st : Stb b P) (h1 : GT b g P σ te) (h2 : GA b g P σ n ta) : GA b g P σ (n + 1) (tCons te ta) := fun H Q hB p q =>
  h1 H _ hB p fun H1 v bl1 hB1 t1 => h2 H1 _ hB1 (st _ _ p bl1) fun H2 vs bl2 hB2 t2 hl => q H2 (v :: vs) (bl1.trans bl2) hB2 (fun u hu => by
    rcases List.mem_cons.mp hu with z | z
    · rw [z]; exact t1.bl bl2
    · exact t2 u z) (by rw [List.length_cons, hl])
theorem gt_tup {n : Nat} {ta : TA} (hn : n ≤ 1000) (h : GA b g P σ n ta) : GT b g P σ (tTup ta) := fun H Q hB p q =>
  h H _ hB p fun H1 vs bl1 hB1 t1 hl => ⟨Nat.le_trans (show vs.length ≤ 1000 by omega) (by decide), fun a na => by
    have s := same_upd (o := HO.tup vs) na
    exact q _ _ (bl1.trans (.same s)) (hB1.same s) (.tup upd_same (hB1.nb na) (by omega) fun v hv => (t1 v hv).same s)⟩
theorem gl_lst {n : Nat} {ta : TA} (hn : n ≤ 1000) (h : GA b g P σ n ta) : GL b g P σ n (tLst ta) := fun H Q hB p q =>
  h H _ hB p fun H1 vs bl1 hB1 t1 hl => ⟨Nat.le_trans (show vs.length ≤ 1000 by omega) (by decide), fun a na => by
    have s := same_upd (o := HO.lst vs) na
    exact q _ a vs (bl1.trans (.same s)) (hB1.same s) (bl1.nw na (by simpa using hB1.nb na)) upd_same (fun v hv => (t1 v hv).same s) hl⟩
theorem gl_gt {n : Nat} {te : TE} (h : GL b g P σ n te) : GT b g P σ te := fun H Q hB p q => h H Q hB p fun H1 l vs bl hB1 nl hl _ _ => q H1 _ bl hB1 (.lst hl (hB.nb nl))
theorem gt_lst {n : Nat} {ta : TA} (hn : n ≤ 1000) (h : GA b g P σ n ta) : GT b g P σ (tLst ta) := gl_gt (gl_lst hn h)
theorem gt_int (i : Int) (h : i ≤ maxI) : GT b g P σ (tC (.int i)) := fun H Q hB _ q => q H _ .refl hB (.int i h)
theorem gt_non : GT b g P σ (tC .non) := fun H Q hB _ q => q H _ .refl hB .non
theorem gt_bl (i : Bool) : GT b g P σ (tC (.bl i)) := fun H Q hB _ q => q H _ .refl hB (.boo i)
theorem gt_str (z : Str) (h : z.length ≤ 5000) : GT b g P σ (tC (.str z)) := fun H Q hB _ q => q H _ .refl hB (.str z h)
theorem gt_var {i : Nat} {v : V} (e : σ[i]? = some (some v)) (h : ∀ H, P H → Thg b H v) : GT b g P σ (tVar i) := fun H Q hB p q => ⟨v, e, q H _ .refl hB (h H p)⟩
end
section
variable {b g : Addr} {P : Hp → Prop} {σ : St}
theorem gt_dct : GT b g P σ tDNewK := fun H Q hB _ q p np => by
  have s := same_upd (o := HO.dK []) np
  exact q _ _ (.same s) (hB.same s) (.dct upd_same (hB.nb np))
theorem gt_neg : GT b g P σ (tUn (rU fun i => .int (-i)) (tC (.int 1))) := fun H Q hB _ q => ⟨_, rfl, q H _ .refl hB (.int _ (by decide))⟩
def GB (b g : Addr) (P : Hp → Prop) (σ : St) (n : Nat) (ta : TA) : Prop := ∀ H (Q : List V → Hp → Prop), BoxAt H b g → P H → (∀ H' vs, BL [b] H H' → BoxAt H' b g → (∀ v ∈ vs, Thg b H' v) → vs.length ≤ n → Q vs H') → ta σ H Q
theorem gb_nil {n : Nat} : GB b g P σ n tNil := fun H Q hB _ q => q H [] .refl hB (by simp) (Nat.zero_le _)
theorem gb_cons {n : Nat} {te : TE} {ta : TA} (st : Stb b P) (h1 : GT b g P σ te) (h2 : GB b g P σ n ta) : GB b g P σ (n + 1) (tCons te ta) := fun H Q hB p q =>
  h1 H _ hB p fun H1 v bl1 hB1 t1 => h2 H1 _ hB1 (st _ _ p bl1) fun H2 vs bl2 hB2 t2 hl => q H2 (v :: vs) (bl1.trans bl2) hB2 (fun u hu => by
    rcases List.mem_cons.mp hu with z | z
    · rw [z]; exact t1.bl bl2
    · exact t2 u z) (by rw [List.length_cons]; omega)
theorem gt_tupB {ta : TA} (h : GB b g P σ 900 ta) : GT b g P σ (tTup ta) := fun H Q hB p q =>
  h H _ hB p fun H1 vs bl1 hB1 t1 hl => ⟨Nat.le_trans (show vs.length ≤ 1000 by omega) (by decide), fun a na => by
    have s := same_upd (o := HO.tup vs) na
    exact q _ _ (bl1.trans (.same s)) (hB1.same s) (.tup upd_same (hB1.nb na) (by omega) fun v hv => (t1 v hv).same s)⟩
theorem gt_lstB {ta : TA} (h : GB b g P σ 900 ta) : GT b g P σ (tLst ta) := fun H Q hB p q =>
  h H _ hB p fun H1 vs bl1 hB1 t1 hl => ⟨Nat.le_trans (show vs.length ≤ 1000 by omega) (by decide), fun a na => by
    have s := same_upd (o := HO.lst vs) na
    exact q _ _ (bl1.trans (.same s)) (hB1.same s) (.lst upd_same (hB1.nb na))⟩
theorem gl_lst' {n : Nat} {ta : TA} (h : GA b g P σ n ta) (hn : n ≤ 1000) : GL b g P σ n (tLst ta) := gl_lst hn h
theorem tt (b : Addr) : Stb b fun _ => True := fun _ _ _ _ => trivial
end
theorem Thg.put {b l : Addr} {H : Hp} {v : V} {xs ys : List V} (h : Thg b H v) (hl : H l = some (.lst xs)) : Thg b (upd H l (.lst ys)) v := by
  have th : ∀ {v : V} {t : String}, ThT H v t → ThT (upd H l (.lst ys)) v t := fun {v t} h => by
    cases h with
    | non => exact .non
    | bl c => exact .bl c
    | int i => exact .int i
    | str x => exact .str x
    | @lst a zs h =>
      by_cases e : a = l
      · subst e; exact .lst upd_same
      · exact .lst (by rw [upd_ne e]; exact h)
    | @tup a zs h =>
      have e : a ≠ l := fun z => by rw [z, hl] at h; cases h
      exact .tup (by rw [upd_ne e]; exact h)
    | @dct a zs h =>
      have e : a ≠ l := fun z => by rw [z, hl] at h; cases h
      exact .dct (by rw [upd_ne e]; exact h)
  have s0 : ∀ {v : V}, Sh0 b H v → Sh0 b (upd H l (.lst ys)) v := fun {v} ⟨⟨t, h1⟩, h2⟩ => ⟨⟨t, th h1⟩, h2⟩
  intro n
  have := h n
  clear h
  induction n generalizing v with
  | zero => exact s0 this
  | succ n ih =>
    refine ⟨s0 this.1, fun a zs e ea => ?_⟩
    have ne : a ≠ l := fun z => by rw [z, upd_same] at ea; cases ea
    rw [upd_ne ne] at ea
    obtain ⟨q1, q2⟩ := this.2 a zs e ea
    exact ⟨q1, fun x hx => ih (q2 x hx)⟩
/-- an expression that makes a tuple of things -/
def GU (b g : Addr) (P : Hp → Prop) (σ : St) (n : Nat) (te : TE) : Prop := ∀ H (Q : VK), BoxAt H b g → P H → (∀ H' a vs, BL [b] H H' → BoxAt H' b g → H' a = some (.tup vs) → (∀ v ∈ vs, Thg b H' v) → vs.length ≤ n → Q (.ref a) H') → te σ H Q
section
variable {K : PySem.W.Frag} {b g : Addr} {P : Hp → Prop} {σ : St}
theorem gu_gt {n : Nat} {te : TE} (h : GU b g P σ n te) (hn : n ≤ 5000) : GT b g P σ te := fun H Q hB p q => h H _ hB p fun H1 a vs bl hB1 ha ht hl => q H1 _ bl hB1 (.tup ha (hB1.nt.ne ha) (by omega) ht)
theorem gu_mono {n m : Nat} {te : TE} (h : GU b g P σ n te) (hn : n ≤ m) : GU b g P σ m te := fun H Q hB p q => h H _ hB p fun H1 a vs bl hB1 ha ht hl => q H1 a vs bl hB1 ha ht (by omega)
theorem gu_var {i n : Nat} {a : Addr} {vs : List V} (e : σ[i]? = some (some (.ref a))) (h : ∀ H, P H → H a = some (.tup vs) ∧ ∀ v ∈ vs, Thg b H v) (hn : vs.length ≤ n) : GU b g P σ n (tVar i) := fun H Q hB p q => ⟨_, e, q H a vs .refl hB (h H p).1 (h H p).2 hn⟩
theorem gu_tup1 {te : TE} (h : GT b g P σ te) : GU b g P σ 1 (tTup (tCons te tNil)) := fun H Q hB p q => h H _ hB p fun H1 v bl hB1 tv => ⟨by show 1 ≤ sizeLine; decide, fun a na => by
  have s := same_upd (o := HO.tup [v]) na
  exact q _ a [v] (bl.trans (.same s)) (hB1.same s) upd_same (fun x hx => by rw [List.mem_singleton.mp hx]; exact tv.same s) (Nat.le_refl 1)⟩
theorem gu_cat {n m : Nat} {t1 t2 : TE} (st : Stb b P) (h1 : GU b g P σ n t1) (h2 : GU b g P σ m t2) (hnm : n + m ≤ 100000) : GU b g P σ (n + m) (tOp (rCatA K) t1 t2) := fun H Q hB p q =>
  h1 H _ hB p fun H1 a vs bl1 hB1 ha tv hl => h2 H1 _ hB1 (st _ _ p bl1) fun H2 c ws bl2 hB2 hc tw hm => by
    have ha2 := bl2 _ _ (by simpa using hB1.nt.ne ha) ha
    have tv2 : ∀ v ∈ vs, Thg b H2 v := fun v hv => (tv v hv).bl bl2
    refine ⟨a, c, vs, ws, rfl, rfl, .of ha2, .of hc, Nat.le_trans (show vs.length + ws.length ≤ 100000 by omega) (by decide), fun _ => q _ c ws (bl1.trans bl2) hB2 hc tw (by omega), fun _ _ => q _ a vs (bl1.trans bl2) hB2 ha2 tv2 (by omega), fun _ _ x nx => ?_⟩
    have s := same_upd (o := HO.tup (vs ++ ws)) nx
    refine q _ x (vs ++ ws) ((bl1.trans bl2).trans (.same s)) (hB2.same s) upd_same (fun v hv => ?_) (by rw [List.length_append]; omega)
    rcases List.mem_append.mp hv with z | z
    · exact (tv2 v z).same s
    · exact (tw v z).same s
theorem cut_mem {xs : List V} {lo hi : Option Int} {v : V} (h : v ∈ cutV xs lo hi) : v ∈ xs := List.mem_of_mem_drop (List.mem_of_mem_take h)
theorem cut_len {xs : List V} {lo hi : Option Int} : (cutV xs lo hi).length ≤ xs.length := by
  unfold cutV
  rw [List.length_take, List.length_drop]
  omega
theorem gu_slc {n : Nat} {te : TE} {lo hi : Option Int} (h : GU b g P σ n te) {tl th : TO} (hl : ∀ H (Q : Option Int → Hp → Prop), Q lo H → tl σ H Q) (hh : ∀ H (Q : Option Int → Hp → Prop), Q hi H → th σ H Q) : GU b g P σ n (tSl (rSlA K) te tl th) := fun H Q hB p q =>
  h H _ hB p fun H1 a vs bl1 hB1 ha tv hlen => hl _ _ (hh _ _ ⟨a, vs, rfl, .of ha, fun _ => q _ a vs bl1 hB1 ha tv hlen, fun _ x nx => by
    have s := same_upd (o := HO.tup (cutV vs lo hi)) nx
    exact q _ x _ (bl1.trans (.same s)) (hB1.same s) upd_same (fun v hv => (tv v (cut_mem hv)).same s) (Nat.le_trans cut_len hlen)⟩)
theorem to_no (H : Hp) (Q : Option Int → Hp → Prop) (q : Q none H) : tNoPart σ H Q := q
theorem to_var {i : Nat} {n : Int} (e : σ[i]? = some (some (.int n))) (H : Hp) (Q : Option Int → Hp → Prop) (q : Q (some n) H) : tPart (tVar i) σ H Q := ⟨_, e, n, rfl, q⟩
theorem gu_ix {i n : Nat} {j : Int} {p0 a : Addr} {xs vs : List V} (e : σ[i]? = some (some (.ref p0))) (h : ∀ H, P H → H p0 = some (.tup xs) ∧ H a = some (.tup vs) ∧ ∀ v ∈ vs, Thg b H v) (hj : atI xs j = some (.ref a)) (hn : vs.length ≤ n) : GU b g P σ n (tOp (rIxT K) (tVar i) (tC (.int j))) := fun H Q hB p q =>
  ⟨_, e, p0, xs, j, _, rfl, rfl, .of (h H p).1, hj, q H a vs .refl hB (h H p).2.1 (h H p).2.2 hn⟩
theorem gu_ixl {i k n : Nat} {j : Int} {p0 a : Addr} {xs vs : List V} (e : σ[i]? = some (some (.ref p0))) (ek : σ[k]? = some (some (.int j))) (h : ∀ H, P H → H p0 = some (.lst xs) ∧ H a = some (.tup vs) ∧ ∀ v ∈ vs, Thg b H v) (hj : atI xs j = some (.ref a)) (hn : vs.length ≤ n) : GU b g P σ n (tOp (rIxL K) (tVar i) (tVar k)) := fun H Q hB p q =>
  ⟨_, e, _, ek, p0, xs, j, _, rfl, rfl, .of (h H p).1, hj, q H a vs .refl hB (h H p).2.1 (h H p).2.2 hn⟩
theorem gt_listof {n : Nat} {te : TE} (h : GU b g P σ n te) : GT b g P σ (tCB (fun xs H Q => ∃ p ys, xs = [V.ref p] ∧ (SqL K H p ys ∨ SqT K H p ys) ∧ ∀ l, H l = none → Q (V.ref l) (upd H l (HO.lst ys))) (tCons te tNil)) := fun H Q hB p q =>
  h H _ hB p fun H1 a vs bl hB1 ha tv hl => ⟨a, vs, rfl, .inr (.of ha), fun l nl => by
    have s := same_upd (o := HO.lst vs) nl
    exact q _ _ (bl.trans (.same s)) (hB1.same s) (.lst upd_same (hB1.nb nl))⟩
end
theorem stb_bl (b : Addr) (H0 : Hp) : Stb b fun G => BL [b] H0 G := fun _ _ h s => h.trans s
theorem ixN_nat {n j : Nat} (h : j < n) : ixN n (j : Int) = some j := by
  unfold ixN
  rw [if_pos (by omega), if_pos (by omega)]
  simp
end L2.My
end
section
set_option Elab.async false
set_option linter.all false
set_option maxRecDepth 100000
set_option maxHeartbeats 4000000
/-! The law's small ones: name, lock, beneath, int, named, odd, set. -/
namespace L2.My
open PySem PySem.Spec PyProof.Rows
open TL (joinL tl_join tl join_eq)
abbrev sName : Stmt := top 26
abbrev sLock : Stmt := top 27
abbrev sBen : Stmt := top 28
abbrev sLint : Stmt := top 30
abbrev sNamd : Stmt := top 31
abbrev sOdd : Stmt := top 37
abbrev sSet : Stmt := top 38
theorem join_all : ∀ (ys : List Str), (∀ y ∈ ys, y.length = 1 ∧ y.cps.toList.all signB = true) → (Txt.join "" ys).length = ys.length ∧ (Txt.join "" ys).cps.toList.all signB = true := fun ys h => by
  have e : (Txt.join "" ys).cps.toList = joinL (tl "") (ys.map tl) := by
    rw [join_eq]
    exact tl_join "" ys
  have e2 : tl "" = [] := rfl
  have key : ∀ (zs : List Str), (∀ y ∈ zs, y.length = 1 ∧ y.cps.toList.all signB = true) → (joinL [] (zs.map tl)).length = zs.length ∧ (joinL [] (zs.map tl)).all signB = true := by
    intro zs
    induction zs with
    | nil => intro _; exact ⟨rfl, rfl⟩
    | cons x r ih =>
      intro h
      obtain ⟨h1, h2⟩ := h x List.mem_cons_self
      obtain ⟨i1, i2⟩ := ih fun y hy => h y (List.mem_cons_of_mem _ hy)
      have hx : (tl x).length = 1 := by
        have : x.cps.toList.length = 1 := by rw [Array.length_toList]; exact h1
        exact this
      cases r with
      | nil => exact ⟨hx, h2⟩
      | cons y r =>
        show (tl x ++ ([] ++ joinL [] ((y :: r).map tl))).length = _ ∧ (tl x ++ ([] ++ joinL [] ((y :: r).map tl))).all signB = true
        rw [List.nil_append, List.length_append, List.all_append, i1, i2, hx, Bool.and_true]
        exact ⟨by simp only [List.length_cons]; omega, h2⟩
  obtain ⟨k1, k2⟩ := key ys h
  rw [e2] at e
  refine ⟨?_, by rw [e]; exact k2⟩
  have : (Txt.join "" ys).cps.toList.length = ys.length := by rw [e]; exact k1
  rw [Array.length_toList] at this
  exact this
def betw (lo hi : Int) : V → Bool
  | .int i => decide (lo ≤ i ∧ i ≤ hi)
  | _ => false
def spName : Sp := fun vs H Q _ => ∃ (b g : Addr), vs = [.ref b] ∧ BoxAt H b g ∧ ∀ H' z, BL [b] H H' → BoxAt H' b g → wordB z = true → Q (.str z) H'
def spLock : Sp := fun vs H Q _ => ∃ (b g : Addr), vs = [.ref b] ∧ BoxAt H b g ∧ ∀ H' r, BL [b] H H' → BoxAt H' b g → 0 ≤ r → r ≤ maxI → Q (.int r) H'
def benL (lev idx : Nat) : List Nat := (List.range (2 ^ lev)).map fun k => idx * 2 ^ lev + k
def spBen : Sp := fun vs H Q _ => ∃ (a : Addr) (lev idx : Nat), vs = [.ref a] ∧ H a = some (.tup [.int (lev : Nat), .int (idx : Nat)]) ∧ lev ≤ 8 ∧ idx ≤ 1000 ∧ ∀ H' l, Same H H' → H l = none → H' l = some (.lst (nN (benL lev idx))) → Q (.ref l) H'
def spLint : Sp := fun vs H Q _ => ∃ (b : Addr) (v : V) (lo hi : Int), vs = [v, .int lo, .int hi] ∧ Thg b H v ∧ Q (.bl (betw lo hi v)) H
def spOdd : Sp := fun vs H Q _ => ∃ (b g : Addr), vs = [.ref b] ∧ BoxAt H b g ∧ ∀ H' v, BL [b] H H' → BoxAt H' b g → Thg b H' v → Q v H'
def spSet : Sp := fun vs H Q _ => ∃ (a : Addr) (xs : List V) (n : Nat) (v : V), vs = [.ref a, .int (n : Nat), v] ∧ H a = some (.tup xs) ∧ n < xs.length ∧ xs.length ≤ 5000 ∧ ∀ H' c, Same H H' → H' c = some (.tup (xs.set n v)) → Q (.ref c) H'
theorem betw_cases {H : Hp} {v : V} {t : String} {lo hi : Int} (h : ThT H v t) : (∃ i, v = .int i ∧ t = "int") ∨ (∃ c, v = .bl c ∧ t = "bool") ∨ (betw lo hi v = false ∧ instT t "int" = false) := by
  cases h with
  | int i => exact .inl ⟨i, rfl, rfl⟩
  | bl c => exact .inr (.inl ⟨c, rfl, rfl⟩)
  | _ => exact .inr (.inr ⟨rfl, by decide⟩)
theorem catA_ref {K : PySem.W.Frag} {H : Hp} {a b : Addr} {xs ys : List V} {Q : VK} (ha : H a = some (.tup xs)) (hb : H b = some (.tup ys)) (hl : xs.length + ys.length ≤ sizeLine) (h : ∀ c G, Same H G → G c = some (.tup (xs ++ ys)) → Q (.ref c) G) : rCatA K (.ref a) (.ref b) H Q :=
  ⟨a, b, xs, ys, rfl, rfl, .of ha, .of hb, hl, fun e => h b H (Same.refl _) (by rw [e]; exact hb), fun _ e => h a H (Same.refl _) (by rw [e, List.append_nil]; exact ha), fun _ _ x nx => h x _ (same_upd nx) upd_same⟩
theorem slc_ref {K : PySem.W.Frag} {H : Hp} {a : Addr} {xs : List V} {lo hi : Option Int} {Q : VK} (ha : H a = some (.tup xs)) (h : ∀ c G, Same H G → G c = some (.tup (cutV xs lo hi)) → Q (.ref c) G) : rSlA K (.ref a) lo hi H Q := by
  refine ⟨a, xs, rfl, .of ha, fun w => h a H (Same.refl _) ?_, fun _ x nx => h x _ (same_upd nx) upd_same⟩
  rw [ha]
  unfold cutV
  rw [w.1, w.2, List.drop_zero, Nat.sub_zero, List.take_length]
/-- a comprehension whose calls touch the box alone -/
theorem lcB {J : It} {n : Nat} {G : Hp → Prop} {Y : Nat → Hp → V → Hp → Prop} {b gg D : Addr} {H1 : Hp} {Qd : Hp → Prop} {σ : St} {g : TG} {tt : TT} {te : TE} {vs : List Nat} (w : Walk J n G Y) (R : Nat → List V → Prop) (hn : n < sizeLine) (hD : H1 D = none) (hB : BoxAt H1 b gg)
    (hG : ∀ H', BL [b] H1 H' → BoxAt H' b gg → G H') (h0 : R 0 [])
    (hs : ∀ i x H H' (Q' : VK) (N' : Hp → Prop) acc, i < n → BL [b] H1 H → BoxAt H b gg → R i acc → Y i H x H' → (∀ v H4, BL [b] H H4 → BoxAt H4 b gg → R (i + 1) (acc ++ [v]) → Q' v H4) → (R (i + 1) acc → ∀ H4, BL [b] H H4 → BoxAt H4 b gg → N' H4) →
      g x (wipe σ vs) H' fun σ2 H2 => wipe σ2 vs = wipe σ vs ∧ tt σ2 H2 fun c H3 => if c = true then te σ2 H3 Q' else N' H3)
    (hd : ∀ H acc, BL [b] H1 H → BoxAt H b gg → H D = some (.lst acc) → R n acc → acc.length ≤ n → Qd H) : CompOut J g tt te vs σ D Qd H1 := by
  have nb := hB.nb hD
  have ng := hB.ng hD
  refine lc_it w (fun i H => BL [b] H1 H ∧ BoxAt H b gg ∧ ∃ acc, H D = some (.lst acc) ∧ R i acc ∧ acc.length ≤ i) ⟨.same (same_upd hD), hB.same (same_upd hD), [], upd_same, h0, Nat.le_refl _⟩ (fun i H _ h => hG H h.1 h.2.1) ?_ (fun H ⟨h1, h2, acc, h3, h4, h5⟩ => hd H acc h1 h2 h3 h4 h5)
  rintro i x H H' hi ⟨bl, hb, acc, hacc, hR, hlen⟩ y
  refine hs i x H H' _ _ acc hi bl hb hR y (fun v H4 bl4 hb4 hR4 => ?_) (fun hR4 H4 bl4 hb4 => ⟨bl.trans bl4, hb4, acc, bl4 _ _ (by simpa using nb) hacc, hR4, by omega⟩)
  exact ⟨acc, bl4 _ _ (by simpa using nb) hacc, by omega, BL.put (bl.trans bl4) hD, hb4.put nb ng, acc ++ [v], upd_same, hR4, by rw [List.length_append, List.length_singleton]; omega⟩
theorem sum_ones : ∀ ys : List Str, (∀ y ∈ ys, y.length = 1) → (ys.map (·.length)).sum = ys.length
  | [], _ => rfl
  | y :: r, h => by
    rw [List.map_cons, List.sum_cons, h y List.mem_cons_self, sum_ones r fun z hz => h z (List.mem_cons_of_mem _ hz), List.length_cons, Nat.add_comm]
theorem letters : ("abcdefghijklmnopqrstuvwxyz" : Str).cps.toList = [97, 98, 99, 100, 101, 102, 103, 104, 105, 106, 107, 108, 109, 110, 111, 112, 113, 114, 115, 116, 117, 118, 119, 120, 121, 122] := by decide +kernel
theorem in_letters (c : Nat) : decide (c ∈ ("abcdefghijklmnopqrstuvwxyz" : Str).cps.toList) = signB c := by
  rw [letters]
  unfold signB
  rw [← Bool.decide_and]
  refine decide_eq_decide.mpr ?_
  simp only [List.mem_cons, List.not_mem_nil, or_false]
  omega
theorem letter_at {r : Int} (h0 : 0 ≤ r) (h1 : r < 26) : ∃ c, atI ("abcdefghijklmnopqrstuvwxyz" : Str).cps.toList r = some c ∧ signB c = true := by
  rw [letters]
  obtain ⟨j, rfl⟩ : ∃ j : Nat, r = j := ⟨r.toNat, by omega⟩
  have hj : j < 26 := by omega
  refine ⟨97 + j, ?_, ?_⟩
  · have : ∀ j : Fin 26, atI ([97, 98, 99, 100, 101, 102, 103, 104, 105, 106, 107, 108, 109, 110, 111, 112, 113, 114, 115, 116, 117, 118, 119, 120, 121, 122] : List Nat) ((j.1 : Nat) : Int) = some (97 + j.1) := by decide +kernel
    exact this ⟨j, hj⟩
  · unfold signB
    rw [decide_eq_true (by omega), decide_eq_true (by omega)]
    rfl
section
variable {P : Program} {w : World} {K : PySem.W.Frag} {mg : Str → Option Value} {base : Heap}
theorem scName : FnScope ["box", "many", "k"] ["box"] (defScope sName) := ⟨rfl, rfl, rfl, by decide +kernel, rfl, by decide +kernel, by decide +kernel⟩
theorem ok_name {f : Addr} {fd : FuncData} {k : Nat} (F : Fun K "_law_name" "_law_name" sName f fd) (T : Tx mg) (cD : Cal P w K mg base (k + 3) "_law_draw" ["box", "menu"] spDraw) : FnOk P w K mg base CX0 (k + 4) f fd ["box"] spName := by
  refine F.ok scName (fun vs H Q E h => ?_) (fun cdv A outer s H vs Q E hr h => ?_)
  · obtain ⟨b, g, rfl, _⟩ := h
    rfl
  · obtain ⟨b, g, rfl, hB, q⟩ := h
    refine ⟨_, (pss_cons (ps_set (i := 1) scName.nd rfl (Or.inl rfl) (pe_ifExp (pt_cmpR op_eq (pe_c cD hr (by omega) (by rfl) (pa_cons (pv 0) (pa_cons pe_int pa_nil))) pe_int (nomark _)) (pe_op op_add pe_int (pe_c cD hr (by omega) (by rfl) (pa_cons (pv 0) (pa_cons pe_int pa_nil)))) pe_int)) (pss_one (ps_ret (pe_join pe_str (pe_lc (own := [("k", 2)]) (g := gName 2) (te := tOp rIxS (tC (.str "abcdefghijklmnopqrstuvwxyz")) (tCall spDraw [] E0 (tCons (tVar 0) (tCons (tC (.int 26)) tNil)))) rfl scName.nd (pi_range1 (by rfl) T.range_ (pa_cons (pv 1) pa_nil)) (blkOk_by (N := ["box", "many", "k"]) (sc := defScope sName) (by decide +kernel)) (fun _ _ _ _ _ => pg_name (i := 2) scName.nd rfl (Or.inl rfl)) (fun _ _ _ _ _ => pts_nil) (fun _ _ _ _ _ => (pe_ix ix_str pe_str (pe_c cD hr (by omega) (by rfl) (pa_cons (pv 0) (pa_cons pe_int pa_nil))) (fun _ _ => rfl)))))))), ?_⟩
    refine seq_use (fun σ G => ∃ m : Int, σ = [some (.ref b), some (.int m), none] ∧ BL [b] H G ∧ BoxAt G b g ∧ 1 ≤ m ∧ m ≤ 12) ?_ (fun hrest => ?_)
    · rintro σ G ⟨m, rfl, bl, hBG, m1, m2⟩
      refine ⟨⟨"", rfl⟩, _, rfl, m, rfl, by omega, by omega, fun D nD => ?_⟩
      refine lcB (walk_range (lo := 0)) (fun i acc => ∃ ys : List Str, acc = ys.map V.str ∧ ys.length = i ∧ ∀ y ∈ ys, y.length = 1 ∧ y.cps.toList.all signB = true) (Nat.lt_of_le_of_lt (show m.toNat ≤ 12 by omega) (by decide)) nD hBG (fun _ _ _ => trivial) ⟨[], rfl, rfl, by simp⟩ ?_ ?_
      · rintro i x G1 G2 Q' N' acc hi bl1 hB1 ⟨ys, rfl, hlen, hys⟩ ⟨rfl, rfl⟩ hq _
        refine ⟨rfl, ?_⟩
        show tOp rIxS (tC (.str "abcdefghijklmnopqrstuvwxyz")) (tCall spDraw [] E0 (tCons (tVar 0) (tCons (tC (.int 26)) tNil))) _ _ _
        refine ⟨_, rfl, b, g, 26, rfl, hB1, by decide, by decide, fun G3 r bl3 hB3 r0 r1 => ?_⟩
        obtain ⟨c, hc, hs⟩ := letter_at r0 r1
        refine ⟨_, r, c, rfl, rfl, by decide +kernel, hc, hq _ G3 bl3 hB3 ⟨ys ++ [⟨#[c]⟩], by rw [List.map_append]; rfl, by rw [List.length_append, hlen]; rfl, fun y hy => ?_⟩⟩
        rcases List.mem_append.mp hy with z | z
        · exact hys y z
        · rw [List.mem_singleton.mp z]
          exact ⟨rfl, by show (signB c && true) = true; rw [hs]; rfl⟩
      · rintro G3 acc bl3 hB3 hD3 ⟨ys, rfl, hlen, hys⟩ _
        obtain ⟨j1, j2⟩ := join_all ys hys
        refine ⟨"", D, ys, rfl, rfl, .inl (.of hD3), ?_, q G3 _ (bl.trans bl3) hB3 ?_⟩
        · have e2 : ("" : Str).length = 0 := rfl
          rw [sum_ones ys fun y hy => (hys y hy).1, e2, Nat.mul_zero]
          omega
        · unfold wordB
          rw [j1, j2, decide_eq_true (by omega), decide_eq_true (by omega)]
          rfl
    · refine ⟨_, rfl, b, g, 3, rfl, hB, by decide, by decide, fun G1 r bl1 hB1 r0 r1 => ⟨rfl, _, rfl, ?_⟩⟩
      refine ite2 (fun _ => ?_) (fun _ => hrest _ _ ⟨1, rfl, bl1, hB1, by decide, by decide⟩)
      exact ⟨_, rfl, b, g, 12, rfl, hB1, by decide, by decide, fun G2 r2 bl2 hB2 r20 r21 => ⟨_, _, rfl, rfl, hrest _ _ ⟨_, rfl, bl1.trans bl2, hB2, by omega, by omega⟩⟩⟩
theorem scLock : FnScope ["box"] ["box"] (defScope sLock) := ⟨rfl, rfl, rfl, by decide +kernel, rfl, by decide +kernel, by decide +kernel⟩
theorem ok_lock {f : Addr} {fd : FuncData} {k : Nat} (F : Fun K "_law_lock" "_law_lock" sLock f fd) (T : Tx mg) (cD : Cal P w K mg base (k + 3) "_law_draw" ["box", "menu"] spDraw) : FnOk P w K mg base CX0 (k + 4) f fd ["box"] spLock := by
  refine F.ok scLock (fun vs H Q E h => ?_) (fun cdv A outer s H vs Q E hr h => ?_)
  · obtain ⟨b, g, rfl, _⟩ := h
    rfl
  · obtain ⟨b, g, rfl, hB, q⟩ := h
    refine ⟨_, (pss_one (ps_ret (pe_ifExp (pt_cmpR op_eq (pe_c cD hr (by omega) (by rfl) (pa_cons (pv 0) (pa_cons pe_int pa_nil))) pe_int (nomark _)) (pe_c cD hr (by omega) (by rfl) (pa_cons (pv 0) (pa_cons (pe_op op_pow pe_int pe_int) pa_nil))) (pe_c cD hr (by omega) (by rfl) (pa_cons (pv 0) (pa_cons pe_int pa_nil)))))), ?_⟩
    refine ⟨_, rfl, b, g, 9, rfl, hB, by decide, by decide, fun G1 r bl1 hB1 r0 r1 => ⟨rfl, _, rfl, ?_⟩⟩
    refine ite2 (fun _ => ?_) (fun _ => ?_)
    · refine ⟨_, rfl, _, _, rfl, rfl, ⟨by decide, by decide, by decide⟩, b, g, _, rfl, hB1, by decide, by decide, fun G2 r2 bl2 hB2 r20 r21 => q G2 r2 (bl1.trans bl2) hB2 r20 ?_⟩
      have e : (10 : Int) ^ (Int.toNat 30) ≤ maxI := by decide
      omega
    · refine ⟨_, rfl, b, g, 60, rfl, hB1, by decide, by decide, fun G2 r2 bl2 hB2 r20 r21 => q G2 r2 (bl1.trans bl2) hB2 r20 ?_⟩
      have e : (60 : Int) ≤ maxI := by decide
      omega
abbrev nBen : List Str := ["node", "level", "index", "first", "many", "k"]
theorem scBen : FnScope nBen ["node"] (defScope sBen) := ⟨rfl, rfl, rfl, by decide +kernel, rfl, by decide +kernel, by decide +kernel⟩
theorem ok_ben {f : Addr} {fd : FuncData} {k : Nat} (F : Fun K "_law_beneath" "_law_beneath" sBen f fd) (T : Tx mg) : FnOk P w K mg base CX0 (k + 1) f fd ["node"] spBen := by
  refine F.ok scBen (fun vs H Q E h => ?_) (fun cdv A outer s H vs Q E hr h => ?_)
  · obtain ⟨a, lev, idx, rfl, _⟩ := h
    rfl
  · obtain ⟨a, lev, idx, rfl, ha, hl, hx, q⟩ := h
    refine ⟨_, (pss_cons (ps_asg (pv 0) (pg_tup rfl (pgs_cons (pg_name (i := 1) scBen.nd rfl (Or.inl rfl)) (pgs_cons (pg_name (i := 2) scBen.nd rfl (Or.inl rfl)) pgs_nil)))) (pss_cons (ps_asg (pe_tup (pa_cons (pv 2) (pa_cons pe_int pa_nil))) (pg_tup rfl (pgs_cons (pg_name (i := 3) scBen.nd rfl (Or.inr rfl)) (pgs_cons (pg_name (i := 4) scBen.nd rfl (Or.inl rfl)) pgs_nil)))) (pss_cons (ps_for PassesOwn.never rfl (pi_range1 (by rfl) T.range_ (pa_cons (pv 1) pa_nil)) (pg_name (i := 5) scBen.nd rfl (Or.inl rfl)) (pss_one (ps_asg (pe_tup (pa_cons (pe_op op_mul pe_int (pv 3)) (pa_cons (pe_op op_mul pe_int (pv 4)) pa_nil))) (pg_tup rfl (pgs_cons (pg_name (i := 3) scBen.nd rfl (Or.inr rfl)) (pgs_cons (pg_name (i := 4) scBen.nd rfl (Or.inl rfl)) pgs_nil)))))) (pss_one (ps_ret (pe_lc (own := [("k", 5)]) (g := gName 5) rfl scBen.nd (pi_range1 (by rfl) T.range_ (pa_cons (pv 4) pa_nil)) (blkOk_by (N := nBen) (sc := defScope sBen) (by decide +kernel)) (fun _ _ _ _ _ => pg_name (i := 5) scBen.nd rfl (Or.inl rfl)) (fun _ _ _ _ _ => pts_nil) (fun _ _ _ _ _ => (pe_op op_add (pv 3) (pv 5))))))))), ?_⟩
    refine ⟨_, rfl, a, _, rfl, .of ha, rfl, _, _, rfl, _, _, rfl, rfl, ?_⟩
    refine ⟨_, rfl, by show 2 ≤ sizeLine; decide, fun p np => ⟨p, _, rfl, .of upd_same, rfl, _, _, rfl, _, _, rfl, rfl, ?_⟩⟩
    have s1 := same_upd (o := HO.tup [.int (idx : Nat), .int 1]) np
    generalize upd H p (.tup [.int (idx : Nat), .int 1]) = H1 at *
    refine ⟨_, rfl, _, rfl, by omega, by omega, ?_⟩
    refine for_it (walk_range (lo := 0)) (fun i σ G => ∃ y5, σ = [some (.ref a), some (.int (lev : Nat)), some (.int (idx : Nat)), some (.int ((idx * 2 ^ i : Nat) : Int)), some (.int ((2 ^ i : Nat) : Int)), y5] ∧ Same H G) ⟨_, by rw [Nat.pow_zero, Nat.mul_one]; rfl, s1⟩ (fun i σ G _ _ => trivial) ?_ ?_
    · rintro i y σ G G' hi ⟨y5, rfl, sm⟩ ⟨rfl, rfl⟩
      refine ⟨_, rfl, _, _, rfl, rfl, .inl ⟨by decide, by decide⟩, _, rfl, _, _, rfl, rfl, .inl ⟨by decide, by decide⟩, by show 2 ≤ sizeLine; decide, fun p np => ⟨p, _, rfl, .of upd_same, rfl, _, _, rfl, _, _, rfl, rfl, ?_⟩⟩
      have s2 := same_upd (o := HO.tup [.int (2 * ((idx * 2 ^ i : Nat) : Int)), .int (2 * ((2 ^ i : Nat) : Int))]) np
      have e1 : (2 * ((idx * 2 ^ i : Nat) : Int)) = ((idx * 2 ^ (i + 1) : Nat) : Int) := by
        rw [Nat.pow_succ, ← Nat.mul_assoc]; omega
      have e2 : (2 * ((2 ^ i : Nat) : Int)) = ((2 ^ (i + 1) : Nat) : Int) := by
        rw [Nat.pow_succ]; omega
      refine ⟨some (.int (0 + (i : Nat))), ?_, sm.trans s2⟩
      show [some (V.ref a), some (V.int (lev : Nat)), some (V.int (idx : Nat)), some (V.int (2 * ((idx * 2 ^ i : Nat) : Int))), some (V.int (2 * ((2 ^ i : Nat) : Int))), some (V.int (0 + (i : Nat)))] = _
      rw [e1, e2]
    · rintro σ G ⟨y5, rfl, sm⟩
      have e : ((lev : Nat) : Int).toNat = lev := by omega
      rw [e]
      have hp : 2 ^ lev ≤ 256 := Nat.le_trans (Nat.pow_le_pow_right (by decide) hl) (by decide)
      obtain ⟨M, hM⟩ : ∃ M, M = 2 ^ lev := ⟨_, rfl⟩
      rw [← hM] at hp ⊢
      refine ⟨_, rfl, _, rfl, by omega, by omega, fun D nD => ?_⟩
      refine lcP (walk_range (lo := 0)) (fun i => V.int ((idx * M + i : Nat) : Int)) (Nat.lt_of_le_of_lt (show ((M : Nat) : Int).toNat ≤ 256 by omega) (by decide)) nD (fun _ _ => trivial) ?_ ?_
      · rintro i y G1 G2 Q' hi s2 ⟨rfl, rfl⟩ hq
        refine ⟨rfl, _, rfl, _, rfl, _, _, rfl, rfl, ?_⟩
        have e3 : (((idx * M : Nat) : Int) + (0 + (i : Nat))) = ((idx * M + i : Nat) : Int) := by omega
        dsimp only
        rw [e3]
        exact hq _ (Same.refl _)
      · intro G1 s2 hD
        have e4 : (((M : Nat) : Int).toNat) = M := by omega
        rw [e4] at hD
        refine q G1 D (sm.trans s2) (sm.free nD) (hD.trans ?_)
        unfold nN benL
        rw [← hM, List.map_map]
        rfl
theorem scLint : FnScope ["thing", "least", "most"] ["thing", "least", "most"] (defScope sLint) := ⟨rfl, rfl, rfl, by decide +kernel, rfl, by decide +kernel, by decide +kernel⟩
theorem ok_lint {f : Addr} {fd : FuncData} {k : Nat} (F : Fun K "_law_int" "_law_int" sLint f fd) (T : Tx mg) : FnOk P w K mg base CX0 (k + 1) f fd ["thing", "least", "most"] spLint := by
  refine F.ok scLint (fun vs H Q E h => ?_) (fun cdv A outer s H vs Q E hr h => ?_)
  · obtain ⟨b, v, lo, hi, rfl, _⟩ := h
    rfl
  · obtain ⟨b, v, lo, hi, rfl, hv, q⟩ := h
    obtain ⟨t, ht⟩ := hv.th
    refine ⟨_, (pss_one (ps_ret (pe_and (pe_callB call_isTh (by rfl) T.isi (by decide +kernel) (pa_cons (pv 0) (pa_cons (pe_bltn (v := .ty "int") (u := .type "int") (by rfl) T.int_ (by decide +kernel) rfl) pa_nil))) (pe_and (pe_not (pe_callB call_isTh (by rfl) T.isi (by decide +kernel) (pa_cons (pv 0) (pa_cons (pe_bltn (v := .ty "bool") (u := .type "bool") (by rfl) T.bool_ (by decide +kernel) rfl) pa_nil)))) (pe_one (pe_chain op_le op_le (pv 1) (pv 0) (pv 2))))))), ?_⟩
    refine ⟨_, rfl, _, "int", t, rfl, ht, by decide, _, rfl, ?_⟩
    rcases betw_cases (lo := lo) (hi := hi) ht with ⟨i, rfl, rfl⟩ | ⟨c, rfl, rfl⟩ | ⟨e1, e2⟩
    · refine iteT ⟨_, rfl, _, "bool", _, rfl, .int i, by decide, _, rfl, _, rfl, iteT ⟨_, rfl, _, rfl, _, _, rfl, rfl, _, rfl, ?_⟩⟩
      have e : betw lo hi (.int i) = (decide (lo ≤ i) && decide (i ≤ hi)) := by
        show decide (lo ≤ i ∧ i ≤ hi) = _
        rw [Bool.decide_and]
      rw [e] at q
      by_cases h0 : lo ≤ i
      · rw [decide_eq_true h0] at q ⊢
        exact iteT ⟨_, rfl, _, _, rfl, rfl, q⟩
      · rw [decide_eq_false h0] at q ⊢
        exact iteF q
    · exact iteT ⟨_, rfl, _, "bool", _, rfl, .bl c, by decide, _, rfl, _, rfl, iteF q⟩
    · rw [e2]
      rw [e1] at q
      exact iteF q
theorem scNamd : FnScope ["thing", "sign"] ["thing"] (defScope sNamd) := ⟨rfl, rfl, rfl, by decide +kernel, rfl, by decide +kernel, by decide +kernel⟩
theorem ok_namd {f : Addr} {fd : FuncData} {k : Nat} (F : Fun K "_law_named" "_law_named" sNamd f fd) (T : Tx mg) : FnOk P w K mg base CX0 (k + 1) f fd ["thing"] spWord := by
  refine F.ok scNamd (fun vs H Q E h => ?_) (fun cdv A outer s H vs Q E hr h => ?_)
  · obtain ⟨b, v, rfl, _⟩ := h
    rfl
  · obtain ⟨b, v, rfl, hv, q⟩ := h
    obtain ⟨t, ht⟩ := hv.th
    refine ⟨_, (pss_cons (ps_if (pt_or (pt_not (pt_val (pe_callB call_isTh (by rfl) T.isi (by decide +kernel) (pa_cons (pv 0) (pa_cons (pe_bltn (v := .ty "str") (u := .type "str") (by rfl) T.str_ (by decide +kernel) rfl) pa_nil))))) (pw_or1 (pt_not (pt_chain op_le op_le pe_int (pe_callB call_len_str (by rfl) T.len_ PySem.boot_len (pa_cons (pv 0) pa_nil)) pe_int)))) (pss_one (ps_ret pe_bl)) pss_nil) (pss_one (ps_ret (pe_callB (cr_all rfl) (by rfl) T.all_ (by decide +kernel) (pa_cons (pe_lc (own := [("sign", 1)]) (g := gName 1) (te := tOp rInS (tVar 1) (tC (.str "abcdefghijklmnopqrstuvwxyz"))) rfl scNamd.nd (pi_str (pv 0)) (blkOk_by (N := ["thing", "sign"]) (sc := defScope sNamd) (by decide +kernel)) (fun _ _ _ _ _ => pg_name (i := 1) scNamd.nd rfl (Or.inl rfl)) (fun _ _ _ _ _ => pts_nil) (fun _ _ _ _ _ => (pe_cmpR op_inS (pv 1) pe_str rfl))) pa_nil))))), ?_⟩
    refine ⟨_, rfl, _, "str", t, rfl, ht, by decide, _, rfl, ?_⟩
    rcases str_cases ht with ⟨z, rfl, rfl⟩ | ⟨e1, e2⟩
    · have ls : z.length ≤ sizeLine := Nat.le_trans hv.len (by decide)
      refine iteF ⟨_, rfl, z, rfl, ls, _, _, rfl, rfl, _, rfl, ?_⟩
      by_cases h1 : 1 ≤ z.length
      · rw [decide_eq_true (by omega)]
        refine iteT ⟨_, _, rfl, rfl, _, rfl, ?_⟩
        by_cases h2 : z.length ≤ 12
        · rw [decide_eq_true (by omega)]
          refine iteF ?_
          refine ⟨_, rfl, _, rfl, fun D hD => ?_⟩
          refine lcP walk_str (fun i => V.bl (signB (z.cps.toList.getD i 0))) (Nat.lt_of_le_of_lt (show z.cps.size ≤ 12 from h2) (by decide)) hD (fun _ _ => trivial) ?_ ?_
          · rintro i y H1 H2 Q' hi sm ⟨rfl, c, hc, rfl⟩ hq
            have hcm : z.cps.toList.getD i 0 = c := by
              rw [← Array.getElem?_toList] at hc
              rw [List.getD_eq_getElem?_getD, hc]
              rfl
            rw [hcm, ← in_letters] at hq
            exact ⟨rfl, _, rfl, c, _, rfl, rfl, hq _ (Same.refl _)⟩
          · intro H' sm hd
            refine ⟨D, (List.range z.cps.size).map fun i => signB (z.cps.toList.getD i 0), rfl, .inl (.inl (by rw [hd, List.map_map]; rfl)), ?_⟩
            have e := range_all signB 0 z.cps.toList
            rw [Array.length_toList] at e
            rw [e]
            have e4 : wordV (.str z) = z.cps.toList.all signB := by
              show wordB z = _
              unfold wordB
              rw [decide_eq_true h1, decide_eq_true h2]
              rfl
            rw [e4] at q
            exact q _ sm
        · rw [decide_eq_false (by omega)]
          have e4 : wordV (.str z) = false := by
            show wordB z = _
            unfold wordB
            rw [decide_eq_false h2]
            simp
          rw [e4] at q
          exact iteT (q _ (Same.refl _))
      · rw [decide_eq_false (by omega)]
        have e4 : wordV (.str z) = false := by
          show wordB z = _
          unfold wordB
          rw [decide_eq_false h1]
          rfl
        rw [e4] at q
        exact iteF ⟨_, rfl, iteT (q _ (Same.refl _))⟩
    · rw [e2]
      rw [e1] at q
      exact iteT (q _ (Same.refl _))
theorem scOdd : FnScope ["box"] ["box"] (defScope sOdd) := ⟨rfl, rfl, rfl, by decide +kernel, rfl, by decide +kernel, by decide +kernel⟩
theorem ok_odd {f : Addr} {fd : FuncData} {k : Nat} (F : Fun K "_law_odd" "_law_odd" sOdd f fd) (T : Tx mg) (cD : Cal P w K mg base (k + 3) "_law_draw" ["box", "menu"] spDraw) : FnOk P w K mg base CX0 (k + 4) f fd ["box"] spOdd := by
  refine F.ok scOdd (fun vs H Q E h => ?_) (fun cdv A outer s H vs Q E hr h => ?_)
  · obtain ⟨b, g, rfl, _⟩ := h
    rfl
  · obtain ⟨b, g, rfl, hB, q⟩ := h
    refine ⟨_, (pss_one (ps_ret (pe_ix ix_list (pe_lst (pa_cons pe_non (pa_cons pe_bl (pa_cons pe_str (pa_cons (pe_tup pa_nil) (pa_cons (pe_lst pa_nil) (pa_cons pe_int (pa_cons (pe_un un_neg pe_int) (pa_cons pe_int (pa_cons (pe_tup (pa_cons pe_str pa_nil)) (pa_cons (pe_tup (pa_cons pe_str (pa_cons pe_int pa_nil))) (pa_cons (pe_tup (pa_cons pe_int (pa_cons pe_int pa_nil))) (pa_cons (pe_tup (pa_cons (pe_tup (pa_cons pe_int (pa_cons pe_int pa_nil))) (pa_cons pe_int (pa_cons (pe_tup pa_nil) pa_nil)))) (pa_cons pe_str (pa_cons pe_str (pa_cons pe_str pa_nil)))))))))))))))) (pe_c cD hr (by omega) (by rfl) (pa_cons (pv 0) (pa_cons pe_int pa_nil))) (fun _ _ => rfl)))), ?_⟩
    show tOp _ (tLst _) _ _ _ _
    unfold tOp
    refine gl_lst (b := b) (g := g) (P := fun _ => True) (n := 15) (by decide) ?_ H _ hB trivial fun H1 l vs bl1 hB1 nl hl ht hlen => ?_
    · repeat' (first | exact ga_nil | exact gt_int _ (by decide) | exact gt_non | exact gt_bl _ | exact gt_str _ (by decide +kernel) | exact gt_dct | exact gt_neg | refine ga_cons (tt _) ?_ ?_ | exact gb_nil | refine gb_cons (tt _) ?_ ?_ | refine gt_tupB ?_ | refine gt_lstB ?_)
    · refine ⟨_, rfl, b, g, 15, rfl, hB1, by decide, by decide, fun H2 r bl2 hB2 r0 r1 => ?_⟩
      obtain ⟨j, rfl⟩ : ∃ j : Nat, r = j := ⟨r.toNat, by omega⟩
      have hj : j < vs.length := by omega
      have e1 : vs[j]? = some vs[j] := List.getElem?_eq_getElem hj
      exact ⟨l, vs, _, vs[j], rfl, rfl, .of (bl2 _ _ (by simpa using hB.nb nl) hl), atI_nat e1, q H2 _ (bl1.trans bl2) hB2 ((ht _ (List.getElem_mem hj)).bl bl2)⟩
theorem scSet : FnScope ["things", "at", "thing"] ["things", "at", "thing"] (defScope sSet) := ⟨rfl, rfl, rfl, by decide +kernel, rfl, by decide +kernel, by decide +kernel⟩
theorem ok_set {f : Addr} {fd : FuncData} {k : Nat} (F : Fun K "_law_set" "_law_set" sSet f fd) (T : Tx mg) : FnOk P w K mg base CX0 (k + 1) f fd ["things", "at", "thing"] spSet := by
  refine F.ok scSet (fun vs H Q E h => ?_) (fun cdv A outer s H vs Q E hr h => ?_)
  · obtain ⟨a, xs, n, v, rfl, _⟩ := h
    rfl
  · obtain ⟨a, xs, n, v, rfl, ha, hn, hl, q⟩ := h
    refine ⟨_, (pss_one (ps_ret (pe_op op_catA (pe_op op_catA (pe_slice sl_tupA (pv 0) po_none (po_some (pv 1))) (pe_tup (pa_cons (pv 2) pa_nil))) (pe_slice sl_tupA (pv 0) (po_some (pe_op op_add (pv 1) pe_int)) po_none)))), ?_⟩
    have c1 : cutV xs none (some ((n : Nat) : Int)) = xs.take n := by
      unfold cutV
      rw [HT.sIx_nat]
      show (xs.drop 0).take (min n xs.length - 0) = _
      rw [List.drop_zero, Nat.sub_zero, Nat.min_eq_left (by omega)]
    have c2 : cutV xs (some (((n : Nat) : Int) + 1)) none = xs.drop (n + 1) := by
      have e : (((n : Nat) : Int) + 1) = ((n + 1 : Nat) : Int) := rfl
      rw [e]
      unfold cutV
      rw [HT.sIx_nat]
      show (xs.drop (min (n + 1) xs.length)).take (xs.length - min (n + 1) xs.length) = _
      rw [Nat.min_eq_left (by omega), List.take_of_length_le (by rw [List.length_drop]; exact Nat.le_refl _)]
    refine ⟨_, rfl, ?_⟩
    refine ⟨_, rfl, _, rfl, slc_ref ha fun c1a G1 s1 h1 => ?_⟩
    rw [c1] at h1
    refine ⟨_, rfl, by show 1 ≤ sizeLine; decide, fun p np => ?_⟩
    have s2 := same_upd (o := HO.tup [v]) np
    refine catA_ref (s2 _ _ h1) upd_same (Nat.le_trans (show (xs.take n).length + 1 ≤ 5001 by rw [List.length_take]; omega) (by decide)) fun c2a G3 s3 h3 => ?_
    refine ⟨_, rfl, ⟨_, rfl, _, _, rfl, rfl, ?_⟩⟩
    refine ⟨_, rfl, ?_⟩
    dsimp only [tNoPart]
    refine slc_ref (s3 _ _ (s2 _ _ (s1 _ _ ha))) fun c3a G4 s4 h4 => ?_
    rw [c2] at h4
    refine catA_ref (s4 _ _ h3) h4 (Nat.le_trans (show (xs.take n ++ [v]).length + (xs.drop (n + 1)).length ≤ 5001 by rw [List.length_append, List.length_take, List.length_drop, List.length_singleton]; omega) (by decide)) fun c5 G5 s5 h5 => ?_
    refine q G5 c5 (s1.trans (s2.trans (s3.trans (s4.trans s5)))) (h5.trans ?_)
    rw [List.append_assoc, List.singleton_append, List.set_eq_take_append_cons_drop, if_pos hn]
end
end L2.My
end
section
set_option Elab.async false
set_option linter.all false
set_option maxRecDepth 100000
set_option maxHeartbeats 4000000
/-! What is drawn is a tree. -/
namespace L2.My
open PySem PySem.Spec PyProof.Rows
structure RowOk (h : Nat) (ls : List Lf) (n : Nd) : Prop where
  l1 : 1 ≤ n.1.1
  lh : n.1.1 ≤ h
  at' : n.1.2 < 2 ^ (h - n.1.1)
  k0 : 0 ≤ n.2.1
  k1 : n.2.1 ≤ maxI
  pw : n.2.2.Pairwise (· < ·)
  le : n.2.2.length ≤ 256
  as : ∀ j ∈ n.2.2, j / 2 ^ n.1.1 = n.1.2 ∧ ∃ z, ls[j]? = some (some z)
def nI2 (n : Nd) : List Int := [((n.1.1 : Nat) : Int), ((n.1.2 : Nat) : Int)]
structure DrT (h : Nat) (ls : List Lf) (ns : List Nd) : Prop where
  h8 : h ≤ 8
  ll : ls.length = 2 ^ h
  gl : ∀ l ∈ ls, GLf l
  nd : ((ls.filterMap id).map (·.1)).Nodup
  gn : ∀ n ∈ ns, RowOk h ls n
  asc : ascBy HT.lexLt (ns.map nI2) = true
  nl : ns.length ≤ 1152
theorem pow8 {h : Nat} (hh : h ≤ 8) : 2 ^ h ≤ 256 := Nat.le_trans (Nat.pow_le_pow_right (by decide) hh) (by decide)
theorem DrT.l256 {h : Nat} {ls : List Lf} {ns : List Nd} (d : DrT h ls ns) : ls.length ≤ 256 := by
  rw [d.ll]; exact pow8 d.h8
theorem lf_non {H : Hp} {v : V} {l : Lf} (h : LfAt H v l) : notNon v = l.isSome := by
  cases l with
  | none => cases h; rfl
  | some p => obtain ⟨a, rfl, _⟩ := h; rfl
theorem lf_list {H : Hp} {vs : List V} {ls : List Lf} (h : Paired (LfAt H) vs ls) (hg : ∀ l ∈ ls, GLf l) : (vs.filter notNon).all (memB H) = true ∧ (vs.filter notNon).map (nameV H) = (ls.filterMap id).map (·.1) := by
  induction h with
  | nil => exact ⟨rfl, rfl⟩
  | @cons v l vs ls r t ih =>
    obtain ⟨i1, i2⟩ := ih fun x hx => hg x (List.mem_cons_of_mem _ hx)
    cases l with
    | none => cases r; exact ⟨i1, i2⟩
    | some p =>
      obtain ⟨z, i⟩ := p
      obtain ⟨a, rfl, ha⟩ := r
      obtain ⟨g1, g2, _⟩ := hg _ List.mem_cons_self z i rfl
      have e1 : memB H (.ref a) = true := by
        rw [memB_at (tupOf_at ha)]
        show (wordB z && decide (0 ≤ i)) = true
        rw [g1, decide_eq_true g2]
        rfl
      have e2 : nameV H (.ref a) = z := by
        unfold nameV
        rw [tupOf_at ha]
      refine ⟨?_, ?_⟩
      · show (memB H (.ref a) && (vs.filter notNon).all (memB H)) = true
        rw [e1, i1]; rfl
      · show nameV H (.ref a) :: (vs.filter notNon).map (nameV H) = z :: (ls.filterMap id).map (·.1)
        rw [e2, i2]
theorem leaves_ok {H : Hp} {a : Addr} {h : Nat} {ls : List Lf} {ns : List Nd} (hL : LvsAt H a ls) (d : DrT h ls ns) : leavesB H h (.ref a) = true := by
  obtain ⟨vs, ha, hp⟩ := hL
  obtain ⟨e1, e2⟩ := lf_list hp d.gl
  rw [leavesB_at (tupOf_at ha), e1, e2, decide_eq_true d.nd, decide_eq_true (show vs.length = 2 ^ h by rw [Paired.len hp, d.ll])]
  rfl
theorem asc_pw : ∀ {l : List Nat}, l.Pairwise (· < ·) → ascBy ltI (l.map fun (j : Nat) => (j : Int)) = true
  | [], _ => rfl
  | [_], _ => rfl
  | x :: y :: r, h => by
    have h1 := List.rel_of_pairwise_cons h (List.mem_cons_self (a := y) (l := r))
    show (decide ((x : Int) < (y : Int)) && ascBy ltI ((y :: r).map fun (j : Nat) => (j : Int))) = true
    rw [asc_pw (List.Pairwise.of_cons h), decide_eq_true (by omega)]
    rfl
theorem row_ok {H : Hp} {v : V} {n : Nd} {h : Nat} {vs : List V} {ls : List Lf} (hn : NdAt H v n) (r : RowOk h ls n) (hp : Paired (LfAt H) vs ls) : keptB H h vs v = true ∧ rowI H v = nI2 n := by
  obtain ⟨a, na, ca, rfl, h1, h2, h3⟩ := hn
  have t2 := tupOf_at h2
  have t3 := tupOf_at h3
  refine ⟨?_, ?_⟩
  · have e1 : levV H (.ref na) = n.1.1 := by unfold levV; rw [t2]; rfl
    have e2 : atV H (.ref na) = n.1.2 := by unfold atV; rw [t2]; rfl
    have e3 : nodeB H h (.ref na) = true := by
      unfold nodeB
      rw [t2]
      show (decide (0 ≤ ((n.1.1 : Nat) : Int) ∧ ((n.1.1 : Nat) : Int) < (h : Int) + 1) && decide (0 ≤ ((n.1.2 : Nat) : Int) ∧ ((n.1.2 : Nat) : Int) < (2 : Int) ^ (h - ((n.1.1 : Nat) : Int).toNat))) = true
      have c1 := r.lh
      have c2 := r.at'
      have e : ((2 : Int) ^ (h - ((n.1.1 : Nat) : Int).toNat)) = ((2 ^ (h - n.1.1) : Nat) : Int) := by
        rw [Int.toNat_natCast]; push_cast; rfl
      rw [e, decide_eq_true (by omega), decide_eq_true ⟨by omega, Int.ofNat_lt.mpr c2⟩]
      rfl
    rw [keptB_at (tupOf_at h1), e1, e2, e3, decide_eq_true (show n.1.1 ≠ 0 by have := r.l1; omega), asideB_at t3]
    have e4 : numV (.int n.2.1) = true := decide_eq_true r.k0
    have e5 : (nN n.2.2).all (belowV (vs.length : Int)) = true := by
      unfold nN
      rw [List.all_map, List.all_eq_true]
      intro j hj
      obtain ⟨_, z, hz⟩ := r.as j hj
      have := (List.getElem?_eq_some_iff.mp hz).1
      have := Paired.len hp
      exact decide_eq_true (show (0 : Int) ≤ (j : Nat) ∧ ((j : Nat) : Int) < (vs.length : Int) by omega)
    have e6 : (nN n.2.2).map intV = n.2.2.map fun (j : Nat) => (j : Int) := by
      unfold nN
      rw [List.map_map]
      rfl
    have e7 : ((nN n.2.2).all fun x => decide (iV x / 2 ^ n.1.1 = n.1.2) && notNon (vs.getD (iV x) .non)) = true := by
      unfold nN
      rw [List.all_map, List.all_eq_true]
      intro j hj
      obtain ⟨c, z, hz⟩ := r.as j hj
      obtain ⟨v, hv, hl⟩ := Paired.at hp hz
      show (decide (((j : Nat) : Int).toNat / 2 ^ n.1.1 = n.1.2) && notNon (vs.getD ((j : Nat) : Int).toNat .non)) = true
      rw [Int.toNat_natCast, decide_eq_true c, List.getD_eq_getElem?_getD, hv]
      exact lf_non hl
    rw [e4, e5, e6, asc_pw r.pw, e7]
    rfl
  · unfold rowI
    rw [tupOf_at h1]
    show nodI H (.ref na) = _
    unfold nodI
    rw [t2]
    rfl
theorem rows_ok {H : Hp} {ws : List V} {ns : List Nd} {h : Nat} {vs : List V} {ls : List Lf} (hn : Paired (NdAt H) ws ns) (r : ∀ n ∈ ns, RowOk h ls n) (hp : Paired (LfAt H) vs ls) : ws.all (keptB H h vs) = true ∧ ws.map (rowI H) = ns.map nI2 := by
  induction hn with
  | nil => exact ⟨rfl, rfl⟩
  | @cons w n ws ns q t ih =>
    obtain ⟨i1, i2⟩ := ih fun x hx => r x (List.mem_cons_of_mem _ hx)
    obtain ⟨j1, j2⟩ := row_ok q (r n List.mem_cons_self) hp
    exact ⟨by rw [List.all_cons, j1, i1]; rfl, by rw [List.map_cons, List.map_cons, j2, i2]⟩
theorem drawn_ok {H : Hp} {la na : Addr} {h : Nat} {ls : List Lf} {ns : List Nd} (hL : LvsAt H la ls) (hN : NdsAt H na ns) (d : DrT h ls ns) : badT H (.int (h : Nat)) (.ref la) (.ref na) = none := by
  have e1 : belowV 9 (.int (h : Nat)) = true := decide_eq_true (show (0 : Int) ≤ (h : Nat) ∧ ((h : Nat) : Int) < 9 by have := d.h8; omega)
  have e2 : iV (.int (h : Nat)) = h := Int.toNat_natCast h
  have e3 := leaves_ok hL d
  obtain ⟨vs, ha, hp⟩ := hL
  obtain ⟨ws, hb, hq⟩ := hN
  obtain ⟨r1, r2⟩ := rows_ok hq d.gn hp
  have e4 : nodesB H h vs (.ref na) = true := by
    rw [nodesB_at (tupOf_at hb), r1, r2, d.asc]
    rfl
  unfold badT
  rw [e1, e2, e3, tupOf_at ha, Option.getD_some, e4]
  rfl
/-! ### and made of things -/
section
variable {b : Addr} {H : Hp}
theorem thg_lf {v : V} {l : Lf} (n : NoTup H b) (h : LfAt H v l) (g : GLf l) : Thg b H v := by
  cases l with
  | none => cases h; exact .non
  | some p =>
    obtain ⟨z, i⟩ := p
    obtain ⟨a, rfl, ha⟩ := h
    obtain ⟨g1, g2, g3⟩ := g z i rfl
    refine .tup ha (n.ne ha) (by show 2 ≤ 5000; decide) fun x hx => ?_
    rcases List.mem_cons.mp hx with rfl | hx
    · exact .str _ (Nat.le_trans (word_low g1).1 (by decide))
    · rw [List.mem_singleton.mp hx]; exact .int _ g3
theorem thg_lvs {a : Addr} {ls : List Lf} (n : NoTup H b) (h : LvsAt H a ls) (g : ∀ l ∈ ls, GLf l) (hl : ls.length ≤ 5000) : Thg b H (.ref a) := by
  obtain ⟨vs, ha, hp⟩ := h
  refine .tup ha (n.ne ha) (by rw [Paired.len hp]; exact hl) fun x hx => ?_
  obtain ⟨i, hi⟩ := List.getElem?_of_mem hx
  obtain ⟨l, h1, h2⟩ := Paired.at' hp hi
  exact thg_lf n h2 (g l (List.mem_of_getElem? h1))
theorem thg_nats {a : Addr} {js : List Nat} (n : NoTup H b) (h : H a = some (.tup (nN js))) (hl : js.length ≤ 5000) (hj : ∀ j ∈ js, j < 256) : Thg b H (.ref a) := by
  refine .tup h (n.ne h) (by unfold nN; rw [List.length_map]; exact hl) fun x hx => ?_
  obtain ⟨j, h1, rfl⟩ := List.mem_map.mp hx
  refine .int _ ?_
  have := hj j h1
  have e : (256 : Int) ≤ maxI := by decide
  omega
theorem thg_pair {a : Addr} {i j : Nat} (n : NoTup H b) (h : H a = some (.tup [.int (i : Nat), .int (j : Nat)])) (hi : i ≤ 1000) (hj : j ≤ 1000) : Thg b H (.ref a) := by
  have e : (1000 : Int) ≤ maxI := by decide
  refine .tup h (n.ne h) (by show 2 ≤ 5000; decide) fun x hx => ?_
  rcases List.mem_cons.mp hx with rfl | hx
  · exact .int _ (by omega)
  · rw [List.mem_singleton.mp hx]; exact .int _ (by omega)
theorem RowOk.b128 {h : Nat} {ls : List Lf} {n : Nd} (r : RowOk h ls n) (hh : h ≤ 8) : n.1.2 < 128 := by
  have h1 := r.at'
  have h2 : 2 ^ (h - n.1.1) ≤ 2 ^ 7 := Nat.pow_le_pow_right (by decide) (by have := r.l1; omega)
  have h3 : (2 : Nat) ^ 7 = 128 := by decide
  omega
theorem thg_nd {v : V} {nd : Nd} {h : Nat} {ls : List Lf} (n : NoTup H b) (hv : NdAt H v nd) (r : RowOk h ls nd) (hh : h ≤ 8) (hl : ls.length ≤ 256) : Thg b H v := by
  obtain ⟨a, na, ca, rfl, h1, h2, h3⟩ := hv
  refine .tup h1 (n.ne h1) (by show 3 ≤ 5000; decide) fun x hx => ?_
  rcases List.mem_cons.mp hx with rfl | hx
  · exact thg_pair n h2 (by have := r.lh; omega) (by have := r.b128 hh; omega)
  · rcases List.mem_cons.mp hx with rfl | hx
    · exact .int _ r.k1
    · rw [List.mem_singleton.mp hx]
      refine thg_nats n h3 (Nat.le_trans r.le (by decide)) fun j hj => ?_
      obtain ⟨_, z, hz⟩ := r.as j hj
      have := (List.getElem?_eq_some_iff.mp hz).1
      omega
theorem thg_nds {a : Addr} {ns : List Nd} {h : Nat} {ls : List Lf} (n : NoTup H b) (hN : NdsAt H a ns) (d : DrT h ls ns) : Thg b H (.ref a) := by
  obtain ⟨ws, ha, hp⟩ := hN
  refine .tup ha (n.ne ha) (by rw [Paired.len hp]; exact Nat.le_trans d.nl (by decide)) fun x hx => ?_
  obtain ⟨i, hi⟩ := List.getElem?_of_mem hx
  obtain ⟨l, h1, h2⟩ := Paired.at' hp hi
  exact thg_nd n h2 (d.gn l (List.mem_of_getElem? h1)) d.h8 d.l256
end
end L2.My
end
section
set_option Elab.async false
set_option linter.all false
set_option maxRecDepth 100000
set_option maxHeartbeats 4000000
/-! A tree is drawn. -/
namespace L2.My
open PySem PySem.Spec PyProof.Rows
abbrev sTr : Stmt := top 29
abbrev nTr : List Str := ["box", "most", "height", "leaves", "names", "leaf", "name", "nodes", "many", "level", "index", "beneath", "aside"]
theorem can_strs : ∀ zs : List Str, (∀ z ∈ zs, wordB z = true) → PyData.canLayAll0 (zs.map PyData.str) = true
  | [], _ => rfl
  | z :: r, h => by
    rw [List.map_cons, PyData.canLayAll0, can_strs r fun y hy => h y (List.mem_cons_of_mem _ hy), (Nice.str (word_low (h z List.mem_cons_self)).2).cl]
    rfl
theorem dep_strs : ∀ zs : List Str, PyData.depthAll (zs.map PyData.str) ≤ 1
  | [] => by decide
  | z :: r => by
    have := dep_strs r
    simp only [List.map_cons, PyData.depthAll, PyData.depth]
    omega
theorem shaped_strs (zs : List Str) (h : ∀ z ∈ zs, wordB z = true) : SeqAt.shaped (.list (zs.map PyData.str)) = true := by
  have h1 : PyData.canLay0 (.list (zs.map PyData.str)) = true := by rw [PyData.canLay0]; exact can_strs zs h
  have h2 := dep_strs zs
  unfold SeqAt.shaped
  rw [h1, Bool.true_and]
  refine decide_eq_true ?_
  simp only [PyData.depth]
  omega
theorem shaped_str {z : Str} (h : wordB z = true) : SeqAt.shaped (.str z) = true := by
  unfold SeqAt.shaped
  rw [(Nice.str (word_low h).2).cl, PyData.depth]
  decide
theorem dp_strs {K : PySem.W.Frag} {H : Hp} : ∀ zs : List Str, DpAll K H (zs.map V.str) (zs.map PyData.str)
  | [] => .nil
  | z :: r => .cons (.str z) (dp_strs r)
theorem any_strs (z : Str) : ∀ zs : List Str, ((zs.map PyData.str).any fun y => PyData.eqv y (.str z)) = decide (z ∈ zs)
  | [] => rfl
  | y :: r => by
    rw [List.map_cons, List.any_cons, any_strs z r, eqv_s, ← Bool.decide_or]
    refine decide_eq_decide.mpr ?_
    rw [List.mem_cons]
    exact or_congr_left ⟨Eq.symm, Eq.symm⟩
theorem rNotIn_strs {K : PySem.W.Frag} {H : Hp} {a : Addr} {z : Str} {zs : List Str} {Q : VK} (h : H a = some (.lst (zs.map V.str))) (hz : wordB z = true) (hs : ∀ y ∈ zs, wordB y = true) (q : Q (.bl (!decide (z ∈ zs))) H) : rNotInD K (.str z) (.ref a) H Q :=
  ⟨.str z, zs.map PyData.str, .str z, .lst (.of h) (dp_strs zs), shaped_str hz, shaped_strs zs hs, by rw [any_strs]; exact q⟩
theorem rIn_strs {K : PySem.W.Frag} {H : Hp} {a : Addr} {z : Str} {zs : List Str} {Q : VK} (h : H a = some (.lst (zs.map V.str))) (hz : wordB z = true) (hs : ∀ y ∈ zs, wordB y = true) (q : Q (.bl (decide (z ∈ zs))) H) : rInD K (.str z) (.ref a) H Q :=
  ⟨.str z, zs.map PyData.str, .str z, .lst (.of h) (dp_strs zs), shaped_str hz, shaped_strs zs hs, by rw [any_strs]; exact q⟩
/-- the words among leaves -/
def wds (ls : List Lf) : List Str := (ls.filterMap id).map (·.1)
theorem wds_none (ls : List Lf) : wds (ls ++ [none]) = wds ls := by
  unfold wds
  rw [List.filterMap_append]
  simp
theorem wds_some (ls : List Lf) (p : Str × Int) : wds (ls ++ [some p]) = wds ls ++ [p.1] := by
  unfold wds
  rw [List.filterMap_append]
  simp
theorem wds_word {ls : List Lf} (h : ∀ l ∈ ls, GLf l) : ∀ z ∈ wds ls, wordB z = true := fun z hz => by
  unfold wds at hz
  obtain ⟨p, hp, rfl⟩ := List.mem_map.mp hz
  obtain ⟨l, hl, e⟩ := List.mem_filterMap.mp hp
  exact (h l hl p.1 p.2 e).1
/-- while leaves are drawn -/
structure LvI (b g Lv Nm : Addr) (H G : Hp) (i : Nat) (ls : List Lf) : Prop where
  bl : BL [b] H G
  hb : BoxAt G b g
  vs : ∃ vs, G Lv = some (.lst vs) ∧ Paired (LfAt G) vs ls
  nm : G Nm = some (.lst ((wds ls).map V.str))
  len : ls.length = i
  gl : ∀ l ∈ ls, GLf l
  nd : (wds ls).Nodup
section
variable {b g Lv Nm : Addr} {H G G' : Hp} {i : Nat} {ls : List Lf}
theorem LvI.step (h : LvI b g Lv Nm H G i ls) (s : BL [b] G G') (hb : BoxAt G' b g) (n1 : Lv ≠ b) (n2 : Nm ≠ b) : LvI b g Lv Nm H G' i ls := by
  obtain ⟨vs, e1, e2⟩ := h.vs
  exact ⟨h.bl.trans s, hb, ⟨vs, s _ _ (by simpa using n1) e1, Paired.mapP e2 fun _ _ r => r.tk (h.hb.tk s)⟩, s _ _ (by simpa using n2) h.nm, h.len, h.gl, h.nd⟩
theorem LvI.addN (h : LvI b g Lv Nm H G i ls) (hLv : H Lv = none) (n1 : Lv ≠ b) (n2 : Lv ≠ g) (n3 : Nm ≠ Lv) {vs : List V} (e1 : G Lv = some (.lst vs)) (e2 : Paired (LfAt G) vs ls) : LvI b g Lv Nm H (upd G Lv (.lst (vs ++ [.non]))) (i + 1) (ls ++ [none]) := by
  have tk : TK G (upd G Lv (.lst (vs ++ [.non]))) := .upd e1 (fun _ e => by cases e)
  refine ⟨h.bl.put hLv, h.hb.put n1 n2, ⟨_, upd_same, Paired.snoc (Paired.mapP e2 fun _ _ r => r.tk tk) rfl⟩, ?_, by rw [List.length_append, h.len]; rfl, fun l hl => ?_, by rw [wds_none]; exact h.nd⟩
  · rw [upd_ne n3, wds_none]; exact h.nm
  · rcases List.mem_append.mp hl with z | z
    · exact h.gl l z
    · rw [List.mem_singleton.mp z]; intro z i e; cases e
theorem LvI.addS (hbl : BL [b] H G) (hb : BoxAt G b g) (hLv : H Lv = none) (n1 : Lv ≠ b) (n2 : Lv ≠ g) (n3 : Nm ≠ Lv) {vs : List V} (e1 : G Lv = some (.lst vs)) (e2 : Paired (LfAt G) vs ls) {z : Str} {r : Int} {p : Addr} (hN : G Nm = some (.lst ((wds ls).map V.str ++ [.str z]))) (hl : ls.length = i) (gl : ∀ l ∈ ls, GLf l) (nd : (wds ls).Nodup) (hz : z ∉ wds ls) (hw : wordB z = true) (r0 : 0 ≤ r) (r1 : r ≤ maxI) (hp : G p = some (.tup [.str z, .int r])) :
    LvI b g Lv Nm H (upd G Lv (.lst (vs ++ [.ref p]))) (i + 1) (ls ++ [some (z, r)]) := by
  have tk : TK G (upd G Lv (.lst (vs ++ [.ref p]))) := .upd e1 (fun _ e => by cases e)
  refine ⟨hbl.put hLv, hb.put n1 n2, ⟨_, upd_same, Paired.snoc (Paired.mapP e2 fun _ _ r => r.tk tk) ⟨p, rfl, tk _ _ hp⟩⟩, ?_, by rw [List.length_append, hl]; rfl, fun l hl => ?_, ?_⟩
  · rw [upd_ne n3, wds_some, List.map_append]; exact hN
  · rcases List.mem_append.mp hl with z | z
    · exact gl l z
    · rw [List.mem_singleton.mp z]; intro z i e; cases e; exact ⟨hw, r0, r1⟩
  · rw [wds_some]; exact nodup_snoc.mpr ⟨nd, hz⟩
end
section
variable {P : Program} {w : World} {K : PySem.W.Frag} {mg : Str → Option Value} {base : Heap}
/-- while nodes are drawn -/
structure NdI (b g Lv Nl : Addr) (H G : Hp) (h : Nat) (ls : List Lf) (ns : List Nd) (lev at' : Nat) : Prop where
  bl : BL [b] H G
  hb : BoxAt G b g
  vs : ∃ vs, G Lv = some (.lst vs) ∧ Paired (LfAt G) vs ls
  ws : ∃ ws, G Nl = some (.lst ws) ∧ Paired (NdAt G) ws ns
  gn : ∀ n ∈ ns, RowOk h ls n
  asc : ascBy HT.lexLt (ns.map nI2) = true
  lt : ∀ n ∈ ns, n.1.1 < lev ∨ (n.1.1 = lev ∧ n.1.2 < at')
  nl : ns.length ≤ (lev - 1) * 128 + at'
theorem NdI.step {b g Lv Nl : Addr} {H G G' : Hp} {h lev at' : Nat} {ls : List Lf} {ns : List Nd} (x : NdI b g Lv Nl H G h ls ns lev at') (s : BL [b] G G') (hb : BoxAt G' b g) (n1 : Lv ≠ b) (n2 : Nl ≠ b) : NdI b g Lv Nl H G' h ls ns lev at' := by
  obtain ⟨vs, e1, e2⟩ := x.vs
  obtain ⟨ws, f1, f2⟩ := x.ws
  have tk := x.hb.tk s
  exact ⟨x.bl.trans s, hb, ⟨vs, s _ _ (by simpa using n1) e1, Paired.mapP e2 fun _ _ r => r.tk tk⟩, ⟨ws, s _ _ (by simpa using n2) f1, Paired.mapP f2 fun _ _ r => r.tk tk⟩, x.gn, x.asc, x.lt, x.nl⟩
theorem asc_snoc {α : Type} {lt : α → α → Bool} {x : α} : ∀ {l : List α}, (∀ y ∈ l, lt y x = true) → ascBy lt l = true → ascBy lt (l ++ [x]) = true
  | [], _, _ => rfl
  | [y], h, _ => by
    show (lt y x && true) = true
    rw [h y List.mem_cons_self]; rfl
  | y :: z :: r, h, e => by
    obtain ⟨e1, e2⟩ := Bool.and_eq_true_iff.mp (show (lt y z && ascBy lt (z :: r)) = true from e)
    show (lt y z && ascBy lt ((z :: r) ++ [x])) = true
    rw [e1, asc_snoc (fun a ha => h a (List.mem_cons_of_mem _ ha)) e2]; rfl
theorem NdI.weak {b g Lv Nl : Addr} {H G : Hp} {h lev at' : Nat} {ls : List Lf} {ns : List Nd} (x : NdI b g Lv Nl H G h ls ns lev at') : NdI b g Lv Nl H G h ls ns lev (at' + 1) :=
  ⟨x.bl, x.hb, x.vs, x.ws, x.gn, x.asc, fun n hn => (x.lt n hn).imp_right fun e => ⟨e.1, by omega⟩, by have := x.nl; omega⟩
theorem NdI.next {b g Lv Nl : Addr} {H G : Hp} {h lev at' : Nat} {ls : List Lf} {ns : List Nd} (x : NdI b g Lv Nl H G h ls ns lev at') (h1 : 1 ≤ lev) (ha : at' ≤ 128) : NdI b g Lv Nl H G h ls ns (lev + 1) 0 :=
  ⟨x.bl, x.hb, x.vs, x.ws, x.gn, x.asc, fun n hn => .inl (by rcases x.lt n hn with e | e <;> omega), by have := x.nl; omega⟩
theorem NdI.add {b g Lv Nl : Addr} {H G : Hp} {h lev at' : Nat} {ls : List Lf} {ns : List Nd} (x : NdI b g Lv Nl H G h ls ns lev at') (hNl : H Nl = none) (n1 : Nl ≠ b) (n2 : Nl ≠ g) (n3 : Lv ≠ Nl) {ws : List V} (f1 : G Nl = some (.lst ws)) (f2 : Paired (NdAt G) ws ns) {v : V} {n : Nd} (hv : NdAt G v n) (hr : RowOk h ls n) (hl : n.1.1 = lev) (ha : n.1.2 = at') :
    NdI b g Lv Nl H (upd G Nl (.lst (ws ++ [v]))) h ls (ns ++ [n]) lev (at' + 1) := by
  have tk : TK G (upd G Nl (.lst (ws ++ [v]))) := .upd f1 (fun _ e => by cases e)
  obtain ⟨vs, e1, e2⟩ := x.vs
  refine ⟨x.bl.put hNl, x.hb.put n1 n2, ⟨vs, by rw [upd_ne n3]; exact e1, Paired.mapP e2 fun _ _ r => r.tk tk⟩, ⟨_, upd_same, Paired.snoc (Paired.mapP f2 fun _ _ r => r.tk tk) (hv.tk tk)⟩, fun m hm => ?_, ?_, fun m hm => ?_, ?_⟩
  · rcases List.mem_append.mp hm with z | z
    · exact x.gn m z
    · rw [List.mem_singleton.mp z]; exact hr
  · rw [List.map_append]
    refine asc_snoc (fun y hy => ?_) x.asc
    obtain ⟨m, hm, rfl⟩ := List.mem_map.mp hy
    show HT.lexLt [((m.1.1 : Nat) : Int), ((m.1.2 : Nat) : Int)] [((n.1.1 : Nat) : Int), ((n.1.2 : Nat) : Int)] = true
    rw [HT.lexLt_cons]
    rcases x.lt m hm with e | ⟨e, e'⟩
    · rw [if_neg (by omega), decide_eq_true_eq]; omega
    · rw [if_pos (by omega), HT.lexLt_cons, if_neg (by omega), decide_eq_true_eq]; omega
  · rcases List.mem_append.mp hm with z | z
    · exact (x.lt m z).imp_right fun e => ⟨e.1, by omega⟩
    · rw [List.mem_singleton.mp z]; exact .inr ⟨hl, by omega⟩
  · have := x.nl
    rw [List.length_append, List.length_singleton]
    omega
theorem ben_pw (lev idx : Nat) : (benL lev idx).Pairwise (· < ·) := by
  unfold benL
  rw [List.pairwise_map]
  exact List.pairwise_lt_range.imp fun h => by omega
theorem ben_mem {lev idx j : Nat} (h : j ∈ benL lev idx) : j / 2 ^ lev = idx ∧ ∃ k, k < 2 ^ lev ∧ j = idx * 2 ^ lev + k := by
  obtain ⟨k, hk, rfl⟩ := List.mem_map.mp h
  have hk := List.mem_range.mp hk
  refine ⟨?_, k, hk, rfl⟩
  rw [Nat.mul_comm, Nat.mul_add_div (by omega), Nat.div_eq_of_lt hk]
  rfl
theorem ben_lt {h lev idx j : Nat} (hj : j ∈ benL lev idx) (hi : idx < 2 ^ (h - lev)) (hl : lev ≤ h) : j < 2 ^ h := by
  obtain ⟨_, k, hk, rfl⟩ := ben_mem hj
  have e : 2 ^ h = 2 ^ (h - lev) * 2 ^ lev := by rw [← Nat.pow_add]; congr 1; omega
  rw [e]
  have h2 : (idx + 1) * 2 ^ lev ≤ 2 ^ (h - lev) * 2 ^ lev := Nat.mul_le_mul_right _ hi
  rw [Nat.add_mul, Nat.one_mul] at h2
  omega
theorem sub_snoc {l js : List Nat} {q c : Nat} (h : js.Sublist (l.take q)) (e : l[q]? = some c) : (js ++ [c]).Sublist (l.take (q + 1)) := by
  rw [take_snoc e]; exact h.append (List.Sublist.refl _)
theorem sub_skip {l js : List Nat} {q c : Nat} (h : js.Sublist (l.take q)) (e : l[q]? = some c) : js.Sublist (l.take (q + 1)) := by
  rw [take_snoc e]; exact h.trans (List.sublist_append_left _ _)
theorem ben_len (lev idx : Nat) : (benL lev idx).length = 2 ^ lev := by unfold benL; rw [List.length_map, List.length_range]
theorem nN_at {l : List Nat} {i : Nat} {x : V} (h : (nN l)[i]? = some x) : ∃ j : Nat, l[i]? = some j ∧ x = .int (j : Nat) := by
  unfold nN at h
  rw [List.getElem?_map] at h
  cases e : l[i]? with
  | none => rw [e] at h; cases h
  | some j => rw [e] at h; exact ⟨j, rfl, (Option.some.inj h).symm⟩
theorem nN_len (l : List Nat) : (nN l).length = l.length := by unfold nN; rw [List.length_map]
def spTr : Sp := fun vs H Q _ => ∃ (b g : Addr) (m : Nat), vs = [.ref b, .int (m : Nat)] ∧ BoxAt H b g ∧ m ≤ 8 ∧ ∀ H' p la na h ls ns, BL [b] H H' → BoxAt H' b g → H p = none → H' p = some (.lst [.int (h : Nat), .ref la, .ref na]) → LvsAt H' la ls → NdsAt H' na ns → DrT h ls ns → Q (.ref p) H'
theorem scTr2 : FnScope nTr ["box", "most"] (defScope sTr) := ⟨rfl, rfl, rfl, by decide +kernel, rfl, by decide +kernel, by decide +kernel⟩
theorem ok_ltree {f : Addr} {fd : FuncData} {k : Nat} (F : Fun K "_law_tree" "_law_tree" sTr f fd) (T : Tx mg) (cD : Cal P w K mg base (k + 4) "_law_draw" ["box", "menu"] spDraw) (cB : Cal P w K mg base (k + 4) "_law_beneath" ["node"] spBen) (cN : Cal P w K mg base (k + 4) "_law_name" ["box"] spName) (cL : Cal P w K mg base (k + 4) "_law_lock" ["box"] spLock) : FnOk P w K mg base CX0 (k + 5) f fd ["box", "most"] spTr := by
  refine F.ok scTr2 (fun vs H Q E h => ?_) (fun cdv A outer s H vs Q E hr h => ?_)
  · obtain ⟨b, g, m, rfl, _⟩ := h
    rfl
  · obtain ⟨b, g, m, rfl, hB, hm, q⟩ := h
    refine ⟨_, (pss_cons (ps_set (i := 2) scTr2.nd rfl (Or.inl rfl) (pe_c cD hr (by omega) (by rfl) (pa_cons (pv 0) (pa_cons (pe_op op_add (pv 1) pe_int) pa_nil)))) (pss_cons (ps_set (i := 3) scTr2.nd rfl (Or.inr rfl) (pe_lst pa_nil)) (pss_cons (ps_set (i := 4) scTr2.nd rfl (Or.inl rfl) (pe_lst pa_nil)) (pss_cons (ps_for PassesOwn.never rfl (pi_list (pe_c cB hr (by omega) (by rfl) (pa_cons (pe_tup (pa_cons (pv 2) (pa_cons pe_int pa_nil))) pa_nil))) (pg_name (i := 5) scTr2.nd rfl (Or.inl rfl)) (pss_cons (ps_set (i := 6) scTr2.nd rfl (Or.inl rfl) (pe_c cN hr (by omega) (by rfl) (pa_cons (pv 0) pa_nil))) (pss_one (ps_if (pt_and (pt_cmpR op_gt (pe_c cD hr (by omega) (by rfl) (pa_cons (pv 0) (pa_cons pe_int pa_nil))) pe_int (nomark _)) (pw_and1 (pt_cmpR (op_notInD (u65 hr)) (pv 6) (pv 4) rfl))) (pss_cons (ps_expr (pe_bm PySem.F.plainAttrs_list PySem.F.slot_list_append PySem.F.type_list_append mt_append (pv 4) (pa_cons (pv 6) pa_nil))) (pss_one (ps_expr (pe_bm PySem.F.plainAttrs_list PySem.F.slot_list_append PySem.F.type_list_append mt_append (pv 3) (pa_cons (pe_tup (pa_cons (pv 6) (pa_cons (pe_c cL hr (by omega) (by rfl) (pa_cons (pv 0) pa_nil)) pa_nil))) pa_nil))))) (pss_one (ps_expr (pe_bm PySem.F.plainAttrs_list PySem.F.slot_list_append PySem.F.type_list_append mt_append (pv 3) (pa_cons pe_non pa_nil)))))))) (pss_cons (ps_set (i := 7) scTr2.nd rfl (Or.inl rfl) (pe_lst pa_nil)) (pss_cons (ps_set (i := 8) scTr2.nd rfl (Or.inl rfl) (pe_callB call_len_seq (by rfl) T.len_ PySem.boot_len (pa_cons (pv 3) pa_nil))) (pss_cons (ps_for PassesOwn.never rfl (pi_range2 (by rfl) T.range_ (pa_cons pe_int (pa_cons (pe_op op_add (pv 2) pe_int) pa_nil))) (pg_name (i := 9) scTr2.nd rfl (Or.inl rfl)) (pss_cons (ps_set (i := 8) scTr2.nd rfl (Or.inl rfl) (pe_op op_fdiv (pv 8) pe_int)) (pss_one (ps_for PassesOwn.never rfl (pi_range1 (by rfl) T.range_ (pa_cons (pv 8) pa_nil)) (pg_name (i := 10) scTr2.nd rfl (Or.inl rfl)) (pss_one (ps_if (pt_cmpR op_eq (pe_c cD hr (by omega) (by rfl) (pa_cons (pv 0) (pa_cons pe_int pa_nil))) pe_int (nomark _)) (pss_cons (ps_setLc (own := [("leaf", 5)]) (i := 11) (g := gName 5) (te := tVar 5) (tt := tTest (tOp rNotN (tOp (rIxL K) (tVar 3) (tVar 5)) (tC .non))) rfl scTr2.nd rfl rfl (sw_true rfl rfl rfl (by decide +kernel)) (pi_list (pe_c cB hr (by omega) (by rfl) (pa_cons (pe_tup (pa_cons (pv 9) (pa_cons (pv 10) pa_nil))) pa_nil))) (blkOk_by (N := nTr) (sc := defScope sTr) (by decide +kernel)) (fun _ _ _ _ _ => pg_name (i := 5) scTr2.nd rfl (Or.inl rfl)) (fun _ _ _ _ _ => (pts_one (pt_cmpR op_notN (pe_ix ix_list (pv 3) (pv 5) (fun _ _ => rfl)) pe_non (nomark _)))) (fun _ _ _ _ _ => (pv 5))) (pss_cons (ps_set (i := 12) scTr2.nd rfl (Or.inl rfl) (pe_tupleOf (by rfl) T.tuple_ (pe_lc (own := [("leaf", 5)]) (g := gName 5) (te := tVar 5) (tt := tTest (tOp rEq (tCall spDraw [] E0 (tCons (tVar 0) (tCons (tC (.int 4)) tNil))) (tC (.int 0)))) rfl scTr2.nd (pi_list (pv 11)) (blkOk_by (N := nTr) (sc := defScope sTr) (by decide +kernel)) (fun _ _ _ _ _ => pg_name (i := 5) scTr2.nd rfl (Or.inl rfl)) (fun _ _ _ _ _ => (pts_one (pt_cmpR op_eq (pe_c cD hr (by omega) (by rfl) (pa_cons (pv 0) (pa_cons pe_int pa_nil))) pe_int (nomark _)))) (fun _ _ _ _ _ => (pv 5))))) (pss_one (ps_expr (pe_bm PySem.F.plainAttrs_list PySem.F.slot_list_append PySem.F.type_list_append mt_append (pv 7) (pa_cons (pe_tup (pa_cons (pe_tup (pa_cons (pv 9) (pa_cons (pv 10) pa_nil))) (pa_cons (pe_c cL hr (by omega) (by rfl) (pa_cons (pv 0) pa_nil)) (pa_cons (pv 12) pa_nil)))) pa_nil)))))) pss_nil)))))) (pss_one (ps_ret (pe_lst (pa_cons (pv 2) (pa_cons (pe_tupleOf (by rfl) T.tuple_ (pv 3)) (pa_cons (pe_tupleOf (by rfl) T.tuple_ (pv 7)) pa_nil))))))))))))), ?_⟩
    refine ⟨_, rfl, _, rfl, _, _, rfl, rfl, b, g, _, rfl, hB, by omega, Nat.lt_of_le_of_lt (show (((m : Nat) : Int) + 1).natAbs ≤ 9 by omega) (by decide), fun H1 r bl1 hB1 r0 r1 => ?_⟩
    obtain ⟨h, rfl⟩ : ∃ h : Nat, r = h := ⟨r.toNat, by omega⟩
    have h8 : h ≤ 8 := by omega
    refine ⟨Nat.zero_le _, fun Lv nLv => ?_⟩
    have s2 := same_upd (o := HO.lst []) nLv
    have nLb := hB1.nb nLv
    have nLg := hB1.ng nLv
    have nLH := bl1.nw nLv (by simpa using nLb)
    have hLv2 : (upd H1 Lv (.lst [])) Lv = some (.lst []) := upd_same
    have hB2 := hB1.same s2
    generalize upd H1 Lv (.lst []) = H2 at *
    refine ⟨Nat.zero_le _, fun Nm nNm => ?_⟩
    have s3 := same_upd (o := HO.lst []) nNm
    have nNb := hB2.nb nNm
    have nNg := hB2.ng nNm
    have nNL : Nm ≠ Lv := fun e => by rw [e, hLv2] at nNm; cases nNm
    have nNH := (bl1.trans (.same s2)).nw nNm (by simpa using nNb)
    have hNm3 : (upd H2 Nm (.lst [])) Nm = some (.lst []) := upd_same
    have hLv3 := s3 _ _ hLv2
    have hB3 := hB2.same s3
    generalize upd H2 Nm (.lst []) = H3 at *
    refine ⟨_, rfl, by show 2 ≤ sizeLine; decide, fun p np => ⟨p, h, 0, rfl, upd_same, h8, by decide, fun H4 lb s4 nlb hlb => ⟨lb, rfl, ⟨_, SqL.of hlb⟩, ?_⟩⟩⟩
    have s34 := (same_upd (o := HO.tup [.int (h : Nat), .int 0]) np).trans s4
    have hB4 := hB3.same s34
    have nlb3 : H3 lb = none := (same_upd (o := HO.tup [.int (h : Nat), .int 0]) np).free nlb
    have nlbL : lb ≠ Lv := fun e => by rw [e, hLv3] at nlb3; cases nlb3
    have nlbN : lb ≠ Nm := fun e => by rw [e, hNm3] at nlb3; cases nlb3
    have nlbb := hB3.nb nlb3
    have i0 : LvI b g Lv Nm H H4 0 [] := ⟨((bl1.trans (.same s2)).trans (.same s3)).trans (.same s34), hB4, ⟨[], s34 _ _ hLv3, .nil⟩, s34 _ _ hNm3, rfl, by simp, by decide⟩
    refine for_it (walk_list (xs := nN (benL h 0))) (fun i σ G => ∃ y5 y6 ls, σ = [some (.ref b), some (.int (m : Nat)), some (.int (h : Nat)), some (.ref Lv), some (.ref Nm), y5, y6, none, none, none, none, none, none] ∧ LvI b g Lv Nm H G i ls ∧ G lb = some (.lst (nN (benL h 0)))) ⟨_, _, _, rfl, i0, hlb⟩ (fun i σ G _ hG => ?_) ?_ ?_
    · obtain ⟨_, _, _, _, _, h⟩ := hG
      exact .of h
    · rintro i y σ G G' hi ⟨y5, y6, ls, rfl, I, hlb⟩ ⟨rfl, hy⟩
      rw [nN_len, ben_len] at hi
      have hp8 := pow8 h8
      refine ⟨_, rfl, b, g, rfl, I.hb, fun G1 z bl5 hB5 hz => ?_⟩
      have I1 := I.step bl5 hB5 nLb nNb
      have hlb1 := bl5 _ _ (by simpa using nlbb) hlb
      refine ⟨_, rfl, b, g, 3, rfl, hB5, by decide, by decide, fun G2 r bl6 hB6 r0 r1 => ⟨_, _, rfl, rfl, _, rfl, ?_⟩⟩
      have I2 := I1.step bl6 hB6 nLb nNb
      have hlb2 := bl6 _ _ (by simpa using nlbb) hlb1
      obtain ⟨vs, e1, e2⟩ := I2.vs
      have lvs : vs.length < sizeLine := Nat.lt_of_le_of_lt (show vs.length ≤ 256 by rw [Paired.len e2, I2.len]; omega) (by decide)
      have lnm : (wds ls).length ≤ 256 := by
        have h1 := List.length_filterMap_le (f := (id : Lf → Lf)) (l := ls)
        have h2 := I2.len
        unfold wds
        rw [List.length_map]
        omega
      refine ite2 (fun _ => ?_) (fun _ => ⟨_, rfl, .inl ⟨rfl, _, SqL.of e1⟩, Lv, _, _, rfl, rfl, e1, lvs, _, _, _, rfl, I2.addN nLH nLb nLg nNL e1 e2, by rw [upd_ne nlbL]; exact hlb2⟩)
      refine ⟨_, rfl, _, rfl, rNotIn_strs I2.nm hz (wds_word I2.gl) ⟨_, rfl, ?_⟩⟩
      refine ite2 (fun hnz => ?_) (fun _ => ⟨_, rfl, .inl ⟨rfl, _, SqL.of e1⟩, Lv, _, _, rfl, rfl, e1, lvs, _, _, _, rfl, I2.addN nLH nLb nLg nNL e1 e2, by rw [upd_ne nlbL]; exact hlb2⟩)
      have hnz : z ∉ wds ls := by simpa using hnz
      refine ⟨_, rfl, .inl ⟨rfl, _, SqL.of I2.nm⟩, _, rfl, Nm, _, _, rfl, rfl, I2.nm, by rw [List.length_map]; exact Nat.lt_of_le_of_lt lnm (by decide), ?_⟩
      have tk3 : TK G2 (upd G2 Nm (.lst ((wds ls).map V.str ++ [.str z]))) := .upd I2.nm (fun _ e => by cases e)
      have hN3 : (upd G2 Nm (.lst ((wds ls).map V.str ++ [.str z]))) Nm = some (.lst ((wds ls).map V.str ++ [.str z])) := upd_same
      have hL3 : (upd G2 Nm (.lst ((wds ls).map V.str ++ [.str z]))) Lv = some (.lst vs) := by rw [upd_ne (Ne.symm nNL)]; exact e1
      have hl3 : (upd G2 Nm (.lst ((wds ls).map V.str ++ [.str z]))) lb = some (.lst (nN (benL h 0))) := by rw [upd_ne nlbN]; exact hlb2
      have bl3 := I2.bl.put (o := .lst ((wds ls).map V.str ++ [.str z])) nNH
      have hB3' := I2.hb.put (o := .lst ((wds ls).map V.str ++ [.str z])) nNb nNg
      have e3 := Paired.mapP e2 fun _ _ r => r.tk tk3
      generalize upd G2 Nm (.lst ((wds ls).map V.str ++ [.str z])) = G3 at *
      refine ⟨_, rfl, .inl ⟨rfl, _, SqL.of hL3⟩, _, rfl, _, rfl, b, g, rfl, hB3', fun G4 r bl4 hB4' r0 r1 => ⟨by show 2 ≤ sizeLine; decide, fun p np => ?_⟩⟩
      have tk4 := hB3'.tk bl4
      have s5 := same_upd (o := HO.tup [.str z, .int r]) np
      have hp5 : (upd G4 p (.tup [.str z, .int r])) p = some (.tup [.str z, .int r]) := upd_same
      have hL5 := s5 _ _ (bl4 _ _ (by simpa using nLb) hL3)
      have hN5 := s5 _ _ (bl4 _ _ (by simpa using nNb) hN3)
      have hl5 := s5 _ _ (bl4 _ _ (by simpa using nlbb) hl3)
      have tk5 := tk4.trans (.same s5)
      exact ⟨Lv, _, _, rfl, rfl, hL5, lvs, _, _, _, rfl, LvI.addS ((bl3.trans bl4).trans (.same s5)) (hB4'.same s5) nLH nLb nLg nNL hL5 (Paired.mapP e3 fun _ _ r => r.tk tk5) hN5 I2.len I2.gl I2.nd hnz hz r0 r1 hp5, by rw [upd_ne nlbL]; exact hl5⟩
    · rintro σ G ⟨y5, y6, ls, rfl, I, hlb⟩
      rw [nN_len, ben_len] at I
      obtain ⟨vs, e1, e2⟩ := I.vs
      refine ⟨Nat.zero_le _, fun Nl nNl => ?_⟩
      have s6 := same_upd (o := HO.lst []) nNl
      have nNlb := I.hb.nb nNl
      have nNlg := I.hb.ng nNl
      have nNlH := I.bl.nw nNl (by simpa using nNlb)
      have nLN : Lv ≠ Nl := fun e => by rw [e, nNl] at e1; cases e1
      have hN6 : (upd G Nl (.lst [])) Nl = some (.lst []) := upd_same
      have D0 : NdI b g Lv Nl H (upd G Nl (.lst [])) h ls [] 1 0 := ⟨I.bl.trans (.same s6), I.hb.same s6, ⟨vs, s6 _ _ e1, Paired.mapP e2 fun _ _ r => r.tk (.same s6)⟩, ⟨[], hN6, .nil⟩, by simp, rfl, by simp, Nat.zero_le _⟩
      have hL6 := s6 _ _ e1
      have lvl : vs.length = 2 ^ h := by rw [Paired.len e2, I.len]
      generalize upd G Nl (.lst []) = G6 at *
      refine ⟨_, rfl, Lv, vs, rfl, .inl (.of hL6), ?_⟩
      rw [lvl]
      refine ⟨_, rfl, _, _, rfl, rfl, _, _, rfl, ⟨by decide, by decide, by omega, by omega⟩, ?_⟩
      refine for_it (walk_range (lo := 1)) (fun i σ G => ∃ y5 y6 y9 y10 y11 y12 ns Mi, σ = [some (.ref b), some (.int (m : Nat)), some (.int (h : Nat)), some (.ref Lv), some (.ref Nm), y5, y6, some (.ref Nl), some (.int Mi), y9, y10, y11, y12] ∧ Mi = ((2 ^ (h - i) : Nat) : Int) ∧ NdI b g Lv Nl H G h ls ns (i + 1) 0) ⟨_, _, _, _, _, _, _, _, rfl, rfl, D0⟩ (fun i σ G _ hG => trivial) ?_ ?_
      · rintro i y σ G1 G2 hi ⟨y5, y6, y9, y10, y11, y12, ns, Mi, rfl, hMi, D1⟩ ⟨rfl, hy⟩
        have hi : i < h := by omega
        obtain rfl : y = .int ((i + 1 : Nat) : Int) := hy.trans (congrArg V.int (by omega))
        obtain ⟨M, hM⟩ : ∃ M, M = 2 ^ (h - (i + 1)) := ⟨_, rfl⟩
        have hM2 : Mi = 2 * (M : Int) := by
          rw [hMi, hM, show h - i = (h - (i + 1)) + 1 by omega, Nat.pow_succ]
          omega
        have hM3 : M ≤ 128 := by
          rw [hM]
          exact Nat.le_trans (Nat.pow_le_pow_right (by decide) (show h - (i + 1) ≤ 7 by omega)) (by decide)
        have eM : Mi / 2 = ((M : Nat) : Int) := by omega
        refine ⟨_, rfl, _, _, rfl, rfl, ⟨by decide, by decide⟩, ?_⟩
        refine ⟨_, rfl, Mi / 2, rfl, by omega, by omega, ?_⟩
        refine for_it (walk_range (lo := 0)) (fun j σ G => ∃ y5 y10 y11 y12 ns, σ = [some (.ref b), some (.int (m : Nat)), some (.int (h : Nat)), some (.ref Lv), some (.ref Nm), y5, y6, some (.ref Nl), some (.int (Mi / 2)), some (.int ((i + 1 : Nat) : Int)), y10, y11, y12] ∧ NdI b g Lv Nl H G h ls ns (i + 1) j) ⟨_, _, _, _, _, rfl, D1⟩ (fun i σ G _ hG => trivial) ?_ ?_
        · rintro j y σ G3 G4 hj ⟨y5, y10, y11, y12, ns, rfl, D3⟩ ⟨rfl, hy⟩
          have hj : j < M := by omega
          obtain rfl : y = .int ((j : Nat) : Int) := hy.trans (congrArg V.int (by omega))
          refine ⟨_, rfl, b, g, 2, rfl, D3.hb, by decide, by decide, fun G5 r bl5 hB5 r0 r1 => ⟨rfl, _, rfl, ?_⟩⟩
          have D5 := D3.step bl5 hB5 nLb nNlb
          refine ite2 (fun _ => ?_) (fun _ => ⟨_, _, _, _, _, rfl, D5.weak⟩)
          refine ⟨_, rfl, _, rfl, by show 2 ≤ sizeLine; decide, fun p np => ⟨p, i + 1, j, rfl, upd_same, by omega, by omega, fun G6 l2 s6 nl2 hl2 => ⟨l2, rfl, ⟨_, SqL.of hl2⟩, fun D nD => ?_⟩⟩⟩
          have s56 := (same_upd (o := HO.tup [.int ((i + 1 : Nat) : Int), .int ((j : Nat) : Int)]) np).trans s6
          have nl25 : G5 l2 = none := (same_upd (o := HO.tup [.int ((i + 1 : Nat) : Int), .int ((j : Nat) : Int)]) np).free nl2
          have nl2b := hB5.nb nl25
          have D6 := D5.step (.same s56) (hB5.same s56) nLb nNlb
          obtain ⟨vs, e1, e2⟩ := D6.vs
          have bl8 : (benL (i + 1) j).length ≤ 256 := by rw [ben_len]; exact pow8 (by omega)
          refine lcB (walk_list (xs := nN (benL (i + 1) j))) (fun q acc => ∃ js, acc = nN js ∧ js.Sublist ((benL (i + 1) j).take q) ∧ ∀ x ∈ js, ∃ z, ls[x]? = some (some z)) (Nat.lt_of_le_of_lt (show (nN (benL (i + 1) j)).length ≤ 256 by rw [nN_len]; exact bl8) (by decide)) nD D6.hb (fun G' bl' _ => .of (bl' _ _ (by simpa using nl2b) hl2)) ⟨[], rfl, by simp, by simp⟩ ?_ ?_
          · rintro q x G7 G8 Q' N' acc hq bl7 hB7 ⟨js, rfl, hsub, hjs⟩ ⟨rfl, hx⟩ hy hn
            obtain ⟨c, hc, rfl⟩ := nN_at hx
            have hcl : c < ls.length := by
              rw [I.len]
              exact ben_lt (List.mem_of_getElem? hc) (by rw [← hM]; exact hj) (by omega)
            obtain ⟨v, hv, hl⟩ := Paired.at e2 (List.getElem?_eq_getElem hcl)
            refine ⟨rfl, _, rfl, _, rfl, Lv, vs, _, v, rfl, rfl, .of (bl7 _ _ (by simpa using nLb) e1), atI_nat hv, rfl, _, rfl, ?_⟩
            rw [nonN, lf_non hl]
            cases el : ls[c] with
            | none => exact iteF (hn ⟨js, rfl, sub_skip hsub hc, hjs⟩ _ .refl hB7)
            | some z =>
              refine iteT ⟨_, rfl, hy _ _ .refl hB7 ⟨js ++ [c], by unfold nN; rw [List.map_append]; rfl, sub_snoc hsub hc, fun x hx => ?_⟩⟩
              rcases List.mem_append.mp hx with w | w
              · exact hjs x w
              · rw [List.mem_singleton.mp w]
                exact ⟨z, by rw [List.getElem?_eq_getElem hcl, el]⟩
          · rintro G8 acc bl8 hB8 hD8 ⟨js, rfl, hsub, hjs⟩ hlen
            have nDb := D6.hb.nb nD
            have nDH := D6.bl.nw nD (by simpa using nDb)
            refine ⟨_, rfl, D, rfl, ⟨_, SqL.of hD8⟩, fun D2 nD2 => ?_⟩
            refine lcB (walk_list (xs := nN js)) (fun q acc => ∃ ks, acc = nN ks ∧ ks.Sublist (js.take q)) (Nat.lt_of_le_of_lt (show (nN js).length ≤ 256 by rw [nN_len] at hlen ⊢; rw [nN_len] at hlen; omega) (by decide)) nD2 hB8 (fun G' bl' _ => .of (bl' _ _ (by simpa using nDb) hD8)) ⟨[], rfl, by simp⟩ ?_ ?_
            · rintro q x G9 G10 Q' N' acc hq bl9 hB9 ⟨ks, rfl, hsub2⟩ ⟨rfl, hx⟩ hy hn
              obtain ⟨c, hc, rfl⟩ := nN_at hx
              refine ⟨rfl, _, rfl, b, g, 4, rfl, hB9, by decide, by decide, fun G11 r bl11 hB11 r0 r1 => ⟨rfl, _, rfl, ?_⟩⟩
              refine ite2 (fun _ => ⟨_, rfl, hy _ _ bl11 hB11 ⟨ks ++ [c], by unfold nN; rw [List.map_append]; rfl, sub_snoc hsub2 hc⟩⟩) (fun _ => hn ⟨ks, rfl, sub_skip hsub2 hc⟩ _ bl11 hB11)
            · rintro G9 acc bl9 hB9 hD9 ⟨ks, rfl, hsub2⟩ _
              refine .inl ⟨D2, _, rfl, .of hD9, fun t nt => ?_⟩
              have st := same_upd (o := HO.tup (nN ks)) nt
              have ht : (upd G9 t (.tup (nN ks))) t = some (.tup (nN ks)) := upd_same
              have D10 := D6.step ((bl8.trans bl9).trans (.same st)) (hB9.same st) nLb nNlb
              generalize upd G9 t (.tup (nN ks)) = G10 at *
              obtain ⟨ws, f1, f2⟩ := D10.ws
              refine ⟨_, rfl, .inl ⟨rfl, _, SqL.of f1⟩, _, rfl, _, rfl, by show 2 ≤ sizeLine; decide, fun p1 np1 => ?_⟩
              have s11 := same_upd (o := HO.tup [.int ((i + 1 : Nat) : Int), .int ((j : Nat) : Int)]) np1
              have hp1 : (upd G10 p1 (.tup [.int ((i + 1 : Nat) : Int), .int ((j : Nat) : Int)])) p1 = some (.tup [.int ((i + 1 : Nat) : Int), .int ((j : Nat) : Int)]) := upd_same
              have D11 := D10.step (.same s11) (D10.hb.same s11) nLb nNlb
              have ht11 := s11 _ _ ht
              refine ⟨_, rfl, b, g, rfl, D11.hb, fun G12 r bl12 hB12 r0 r1 => ⟨_, rfl, by show 3 ≤ sizeLine; decide, fun p2 np2 => ?_⟩⟩
              have tk12 := D11.hb.tk bl12
              have D12 := D11.step bl12 hB12 nLb nNlb
              have s13 := same_upd (o := HO.tup [.ref p1, .int r, .ref t]) np2
              have hp2 : (upd G12 p2 (.tup [.ref p1, .int r, .ref t])) p2 = some (.tup [.ref p1, .int r, .ref t]) := upd_same
              have D13 := D12.step (.same s13) (hB12.same s13) nLb nNlb
              obtain ⟨ws3, h1, h2⟩ := D13.ws
              have sub := hsub2.trans ((List.take_sublist _ _).trans (hsub.trans (List.take_sublist _ _)))
              refine ⟨Nl, ws3, _, rfl, rfl, h1, Nat.lt_of_le_of_lt (show ws3.length ≤ 2000 by rw [Paired.len h2]; have := D13.nl; omega) (by decide), _, _, _, _, _, rfl, D13.add (n := ((i + 1, j), (r, ks))) nNlH nNlb nNlg nLN h1 h2 ⟨p2, p1, t, rfl, hp2, s13 _ _ (tk12 _ _ hp1), s13 _ _ (tk12 _ _ ht11)⟩ ⟨by show 1 ≤ i + 1; omega, by show i + 1 ≤ h; omega, by show j < 2 ^ (h - (i + 1)); rw [← hM]; exact hj, r0, r1, (ben_pw (i + 1) j).sublist sub, ?_, fun c hc => ⟨(ben_mem (sub.subset hc)).1, hjs c (((hsub2.trans (List.take_sublist _ _)).subset hc))⟩⟩ rfl rfl⟩
              have := sub.length_le
              rw [ben_len] at this
              exact Nat.le_trans this (pow8 (by omega))
        · rintro σ G3 ⟨y5, y10, y11, y12, ns, rfl, D3⟩
          have e : (Mi / 2).toNat = M := by omega
          have D3 := e ▸ D3
          exact ⟨_, _, _, _, _, _, _, _, rfl, eM.trans (by rw [hM]), D3.next (by omega) (by omega)⟩
      · rintro σ G7 ⟨y5, y6, y9, y10, y11, y12, ns, Mi, rfl, _, D7⟩
        have en : (((h : Nat) : Int) + 1 - 1).toNat = h := by omega
        obtain ⟨vs, e1, e2⟩ := D7.vs
        obtain ⟨ws, f1, f2⟩ := D7.ws
        refine ⟨_, rfl, _, rfl, .inl ⟨Lv, vs, rfl, .of e1, fun la nla => ?_⟩⟩
        have s8 := same_upd (o := HO.tup vs) nla
        refine ⟨_, rfl, .inl ⟨Nl, ws, rfl, .of (s8 _ _ f1), fun na nna => ⟨by show 3 ≤ sizeLine; decide, fun p np => ?_⟩⟩⟩
        have s9 := same_upd (o := HO.tup ws) nna
        have s10 := same_upd (o := HO.lst [.int (h : Nat), .ref la, .ref na]) np
        have s := s8.trans (s9.trans s10)
        have tk : TK G7 _ := .same s
        have npb := ((D7.hb.same s8).same s9).nb np
        refine q _ p la na h ls ns (D7.bl.trans (.same s)) (D7.hb.same s) ((D7.bl.trans (.same (s8.trans s9))).nw np (by simpa using npb)) upd_same ⟨vs, s10 _ _ (s9 _ _ upd_same), Paired.mapP e2 fun _ _ r => r.tk tk⟩ ⟨ws, s10 _ _ upd_same, Paired.mapP f2 fun _ _ r => r.tk tk⟩ ⟨h8, I.len, I.gl, I.nd, D7.gn, D7.asc, ?_⟩
        have := D7.nl
        omega
end
end L2.My
end
section
set_option Elab.async false
set_option linter.all false
set_option maxRecDepth 100000
set_option maxHeartbeats 4000000
/-! The law's own judges: members, a node. -/
namespace L2.My
open PySem PySem.Spec PyProof.Rows
abbrev sMbs : Stmt := top 32
abbrev sLnd : Stmt := top 33
def chainM (H : Hp) : List Str → List V → Bool
  | _, [] => true
  | nm, x :: r => if notNon x = true then (if (memB H x && !decide (nameV H x ∈ nm)) = true then chainM H (nm ++ [nameV H x]) r else false) else chainM H nm r
theorem chainM_cons {H : Hp} {nm : List Str} {x : V} {r : List V} : chainM H nm (x :: r) = if notNon x = true then (if (memB H x && !decide (nameV H x ∈ nm)) = true then chainM H (nm ++ [nameV H x]) r else false) else chainM H nm r := rfl
theorem nodeB_no {H : Hp} {h : Nat} {v : V} (e : pairB H v = false) : nodeB H h v = false := by
  unfold pairB at e
  unfold nodeB
  split <;> simp_all
theorem chainM_eq {H : Hp} : ∀ {xs : List V} {nm : List Str}, nm.Nodup → chainM H nm xs = ((xs.filter notNon).all (memB H) && decide ((nm ++ (xs.filter notNon).map (nameV H)).Nodup))
  | [], nm, h => by
    show true = (true && decide ((nm ++ []).Nodup))
    rw [List.append_nil, decide_eq_true h]; rfl
  | x :: r, nm, h => by
    unfold chainM
    cases hx : notNon x with
    | false =>
      rw [if_neg Bool.false_ne_true, chainM_eq h, List.filter_cons_of_neg (by rw [hx]; exact Bool.false_ne_true)]
    | true =>
      rw [if_pos rfl, List.filter_cons_of_pos hx, List.all_cons, List.map_cons]
      cases hm : memB H x with
      | false => rfl
      | true =>
        rw [Bool.true_and, Bool.true_and]
        by_cases hn : nameV H x ∈ nm
        · rw [decide_eq_true hn, Bool.not_true, if_neg Bool.false_ne_true]
          have : ¬ (nm ++ nameV H x :: (r.filter notNon).map (nameV H)).Nodup := fun z => by
            rw [List.nodup_append] at z
            exact z.2.2 _ hn _ List.mem_cons_self rfl
          rw [decide_eq_false this, Bool.and_false]
        · rw [decide_eq_false hn, Bool.not_false, if_pos rfl, chainM_eq (nodup_snoc.mpr ⟨h, hn⟩), List.append_assoc]
          rfl
theorem betw_num {b : Addr} {H : Hp} {v : V} (h : Thg b H v) : betw 0 ((10 : Int) ^ (Int.toNat 60)) v = numV v := by
  cases v with
  | int i =>
    have h1 := h.le
    have h2 : maxI ≤ (10 : Int) ^ (Int.toNat 60) := by decide
    show decide (0 ≤ i ∧ i ≤ (10 : Int) ^ (Int.toNat 60)) = decide (0 ≤ i)
    exact decide_eq_decide.mpr ⟨fun z => z.1, fun z => ⟨z, by omega⟩⟩
  | _ => rfl
def spMbs : Sp := fun vs H Q _ => ∃ (b : Addr) (h : Nat) (v : V), vs = [.int (h : Int), v] ∧ h ≤ 8 ∧ Thg b H v ∧ ∀ H', Same H H' → Q (.bl (leavesB H h v)) H'
def spLnd : Sp := fun vs H Q _ => ∃ (b : Addr) (h : Nat) (v : V), vs = [v, .int (h : Int)] ∧ h ≤ 8 ∧ Thg b H v ∧ ∀ H', Same H H' → Q (.bl (nodeB H h v && decide (levV H v ≠ 0))) H'
theorem memB_two {H : Hp} {a : Addr} {x y : V} (h : H a = some (.tup [x, y])) : memB H (.ref a) = (wordV x && numV y) := memB_at (tupOf_at h)
theorem word_str {x : V} (h : wordV x = true) : ∃ z, x = .str z ∧ wordB z = true := by
  cases x with
  | str z => exact ⟨z, rfl, h⟩
  | _ => cases h
section
variable {P : Program} {w : World} {K : PySem.W.Frag} {mg : Str → Option Value} {base : Heap}
theorem scMbs : FnScope ["height", "leaves", "names", "leaf"] ["height", "leaves"] (defScope sMbs) := ⟨rfl, rfl, rfl, by decide +kernel, rfl, by decide +kernel, by decide +kernel⟩
theorem ok_mbs {f : Addr} {fd : FuncData} {k : Nat} (F : Fun K "_law_members" "_law_members" sMbs f fd) (T : Tx mg) (cB : Cal P w K mg base (k + 1) "_law_beneath" ["node"] spBen) (cN : Cal P w K mg base (k + 1) "_law_named" ["thing"] spWord) (cI : Cal P w K mg base (k + 1) "_law_int" ["thing", "least", "most"] spLint) : FnOk P w K mg base CX0 (k + 2) f fd ["height", "leaves"] spMbs := by
  refine F.ok scMbs (fun vs H Q E h => ?_) (fun cdv A outer s H vs Q E hr h => ?_)
  · obtain ⟨b, h, v, rfl, _⟩ := h
    rfl
  · obtain ⟨b, h, v, rfl, hh, hv, q⟩ := h
    obtain ⟨t, ht⟩ := hv.th
    refine ⟨_, (pss_cons (ps_if (pt_or (pt_not (pt_val (pe_callB call_isTh (by rfl) T.isi (by decide +kernel) (pa_cons (pv 1) (pa_cons (pe_bltn (v := .ty "tuple") (u := .type "tuple") (by rfl) T.tuple_ (by decide +kernel) rfl) pa_nil))))) (pw_or1 (pt_cmpR op_ne (pe_callB call_len_seq (by rfl) T.len_ PySem.boot_len (pa_cons (pv 1) pa_nil)) (pe_callB call_len_seq (by rfl) T.len_ PySem.boot_len (pa_cons (pe_c cB hr (by omega) (by rfl) (pa_cons (pe_tup (pa_cons (pv 0) (pa_cons pe_int pa_nil))) pa_nil)) pa_nil)) (nomark _)))) (pss_one (ps_ret pe_bl)) pss_nil) (pss_cons (ps_set (i := 2) scMbs.nd rfl (Or.inl rfl) (pe_lst pa_nil)) (pss_cons (ps_for PassesOwn.never rfl (pi_tup (pv 1)) (pg_name (i := 3) scMbs.nd rfl (Or.inl rfl)) (pss_one (ps_if (pt_cmpR op_notN (pv 3) pe_non (nomark _)) (pss_cons (ps_if (pt_or (pt_not (pt_val (pe_callB call_isTh (by rfl) T.isi (by decide +kernel) (pa_cons (pv 3) (pa_cons (pe_bltn (v := .ty "tuple") (u := .type "tuple") (by rfl) T.tuple_ (by decide +kernel) rfl) pa_nil))))) (pw_or (pt_cmpR op_ne (pe_callB call_len_seq (by rfl) T.len_ PySem.boot_len (pa_cons (pv 3) pa_nil)) pe_int (nomark _)) (pw_or1 (pt_not (pt_val (pe_c cN hr (by omega) (by rfl) (pa_cons (pe_ix ix_tup (pv 3) pe_int (fun _ _ => rfl)) pa_nil))))))) (pss_one (ps_ret pe_bl)) pss_nil) (pss_cons (ps_if (pt_or (pt_not (pt_val (pe_c cI hr (by omega) (by rfl) (pa_cons (pe_ix ix_tup (pv 3) pe_int (fun _ _ => rfl)) (pa_cons pe_int (pa_cons (pe_op op_pow pe_int pe_int) pa_nil)))))) (pw_or1 (pt_cmpR (op_inD (u65 hr)) (pe_ix ix_tup (pv 3) pe_int (fun _ _ => rfl)) (pv 2) rfl))) (pss_one (ps_ret pe_bl)) pss_nil) (pss_one (ps_expr (pe_bm PySem.F.plainAttrs_list PySem.F.slot_list_append PySem.F.type_list_append mt_append (pv 2) (pa_cons (pe_ix ix_tup (pv 3) pe_int (fun _ _ => rfl)) pa_nil)))))) pss_nil))) (pss_one (ps_ret pe_bl))))), ?_⟩
    refine ⟨_, rfl, _, "tuple", t, rfl, ht, by decide, _, rfl, ?_⟩
    rcases tup_cases ht with ⟨a, xs, rfl, hx, e, rfl⟩ | ⟨e1, e2⟩
    rotate_left
    · rw [e2]
      rw [leavesB_no e1] at q
      exact iteT (q _ (Same.refl _))
    obtain ⟨hl, hxs⟩ := hv.sub hx
    rw [leavesB_at e] at q
    refine iteF ⟨_, rfl, a, xs, rfl, .inr (.of hx), _, rfl, by show 2 ≤ sizeLine; decide, fun p np => ⟨p, h, 0, rfl, upd_same, hh, by decide, fun H2 lb s2 nlb hlb => ⟨lb, _, rfl, .inl (.of hlb), rfl, _, rfl, ?_⟩⟩⟩
    have s12 := (same_upd (o := HO.tup [.int (h : Nat), .int 0]) np).trans s2
    have hd : decide (V.int (xs.length : Nat) = V.int ((nN (benL h 0)).length : Nat)) = decide (xs.length = 2 ^ h) := by
      rw [dec_int, nN_len, ben_len, Bool.eq_iff_iff, beq_iff_eq, decide_eq_true_iff]
      omega
    rw [hd]
    by_cases hlen : xs.length = 2 ^ h
    rotate_left
    · rw [decide_eq_false hlen, Bool.false_and] at q
      rw [decide_eq_false hlen]
      exact iteT (q _ s12)
    rw [decide_eq_true hlen, Bool.true_and] at q
    rw [decide_eq_true hlen]
    have h256 : xs.length ≤ 256 := by rw [hlen]; exact pow8 hh
    have key := chainM_eq (H := H) (xs := xs) (nm := []) List.nodup_nil
    rw [List.nil_append] at key
    rw [← key] at q
    refine iteF ⟨Nat.zero_le _, fun Nm nNm => ?_⟩
    have s3 := s12.trans (same_upd (o := HO.lst []) nNm)
    have nNmH := s12.free nNm
    refine ⟨_, rfl, a, rfl, ⟨_, SqT.of (s3 _ _ hx)⟩, ?_⟩
    refine for_it (walk_tup (xs := xs)) (fun i σ G => ∃ y3 nm, σ = [some (.int (h : Nat)), some (.ref a), some (.ref Nm), y3] ∧ Same H G ∧ G Nm = some (.lst (nm.map V.str)) ∧ nm.length ≤ i ∧ (∀ z ∈ nm, wordB z = true) ∧ chainM H [] xs = chainM H nm (xs.drop i)) ⟨_, [], rfl, s3, upd_same, Nat.le_refl _, by simp, rfl⟩ (fun i σ G _ hG => ?_) ?_ ?_
    · obtain ⟨_, _, _, sG, _⟩ := hG
      exact .of (sG _ _ hx)
    · rintro i y σ G G' hi ⟨y3, nm, rfl, sG, hN, hnl, hw, hc⟩ ⟨rfl, hy⟩
      obtain ⟨hi', hy'⟩ := List.getElem?_eq_some_iff.mp hy
      have ed : xs.drop i = y :: xs.drop (i + 1) := by rw [← hy']; exact List.drop_eq_getElem_cons hi'
      rw [ed, chainM_cons] at hc
      have ty := hxs y (List.mem_of_getElem? hy)
      refine ⟨_, rfl, rfl, _, rfl, ?_⟩
      rw [nonN]
      cases hn : notNon y with
      | false =>
        rw [hn, if_neg Bool.false_ne_true] at hc
        exact iteF ⟨_, nm, rfl, sG, hN, by omega, hw, hc⟩
      | true =>
      rw [hn, if_pos rfl] at hc
      refine iteT ?_
      have bad : (memB H y && !decide (nameV H y ∈ nm)) = false → ∀ G2, Same H G2 → Q (.bl false) G2 := fun e G2 s => by
        rw [e, if_neg Bool.false_ne_true] at hc
        rw [hc] at q
        exact q _ s
      obtain ⟨t2, ht2⟩ := (ty.same sG).th
      refine ⟨_, rfl, _, "tuple", t2, rfl, ht2, by decide, _, rfl, ?_⟩
      rcases tup_cases ht2 with ⟨c, ys, rfl, hc1, e1, rfl⟩ | ⟨e1, e2⟩
      rotate_left
      · rw [e2]
        have e3 : memB H y = false := by
          have : tupOf H y = none := by rw [← tupOf_bl ty (.same sG)]; exact e1
          unfold memB; rw [this]
        exact iteT (bad (by rw [e3]; rfl) _ sG)
      have e0 : tupOf H (.ref c) = some ys := by rw [← tupOf_bl ty (.same sG)]; exact e1
      refine iteF ⟨_, rfl, c, ys, rfl, .inr (.of hc1), rfl, _, rfl, ?_⟩
      rw [← pairB_at e0]
      cases hp : pairB H (.ref c) with
      | false => exact iteT (bad (by rw [memB_no hp]; rfl) _ sG)
      | true =>
      obtain ⟨c', x1, x2, ec, hcc, ep, tx1, tx2⟩ := pair_of ty hp
      cases ec
      have em := memB_at ep
      rw [e0] at ep
      cases ep
      refine iteF ⟨_, rfl, c, _, _, x1, rfl, rfl, .of hc1, atI_nat (j := 0) rfl, b, x1, rfl, tx1.same sG, fun G2 s2 => ⟨_, rfl, ?_⟩⟩
      have sG2 := sG.trans s2
      cases hw1 : wordV x1 with
      | false => exact iteT (bad (by rw [em, hw1]; rfl) _ sG2)
      | true =>
      rw [hw1, Bool.true_and] at em
      obtain ⟨z, rfl, hz⟩ := word_str hw1
      have en : nameV H (.ref c) = z := by unfold nameV; rw [e0]
      refine iteF ⟨_, rfl, c, _, _, x2, rfl, rfl, .of (s2 _ _ hc1), atI_nat (j := 1) rfl, _, _, rfl, rfl, ⟨by decide, by decide, by decide⟩, b, x2, _, _, rfl, tx2.same sG2, _, rfl, ?_⟩
      rw [betw_num tx2]
      cases hnu : numV x2 with
      | false => exact iteT (bad (by rw [em, hnu]; rfl) _ sG2)
      | true =>
      rw [hnu] at em
      refine iteF ⟨_, rfl, c, _, _, .str z, rfl, rfl, .of (s2 _ _ hc1), atI_nat (j := 0) rfl, _, rfl, rIn_strs (s2 _ _ hN) hz hw ⟨_, rfl, ?_⟩⟩
      by_cases hin : z ∈ nm
      · rw [decide_eq_true hin]
        exact iteT (bad (by rw [en, decide_eq_true hin, Bool.not_true, Bool.and_false]) _ sG2)
      rw [decide_eq_false hin]
      rw [em, en, decide_eq_false hin, Bool.not_false, Bool.and_true, if_pos rfl] at hc
      refine iteF ⟨_, rfl, .inl ⟨rfl, _, SqL.of (s2 _ _ hN)⟩, _, rfl, c, _, _, .str z, rfl, rfl, .of (s2 _ _ hc1), atI_nat (j := 0) rfl, Nm, _, _, rfl, rfl, s2 _ _ hN, by rw [List.length_map]; exact Nat.lt_of_le_of_lt (show nm.length ≤ 256 by omega) (by decide), ?_⟩
      refine ⟨_, nm ++ [z], rfl, same_put sG2 nNmH, by rw [upd_same, List.map_append]; rfl, by rw [List.length_append, List.length_singleton]; omega, fun x hx => ?_, hc⟩
      rcases List.mem_append.mp hx with w | w
      · exact hw x w
      · rw [List.mem_singleton.mp w]; exact hz
    · rintro σ G ⟨y3, nm, rfl, sG, hN, hnl, hw, hc⟩
      rw [List.drop_length] at hc
      rw [hc] at q
      exact q _ sG
theorem scLnd : FnScope ["thing", "height"] ["thing", "height"] (defScope sLnd) := ⟨rfl, rfl, rfl, by decide +kernel, rfl, by decide +kernel, by decide +kernel⟩
theorem ok_lnd {f : Addr} {fd : FuncData} {k : Nat} (F : Fun K "_law_node" "_law_node" sLnd f fd) (T : Tx mg) (cB : Cal P w K mg base (k + 1) "_law_beneath" ["node"] spBen) (cI : Cal P w K mg base (k + 1) "_law_int" ["thing", "least", "most"] spLint) : FnOk P w K mg base CX0 (k + 2) f fd ["thing", "height"] spLnd := by
  refine F.ok scLnd (fun vs H Q E h => ?_) (fun cdv A outer s H vs Q E hr h => ?_)
  · obtain ⟨b, h, v, rfl, _⟩ := h
    rfl
  · obtain ⟨b, h, v, rfl, hh, hv, q⟩ := h
    obtain ⟨t, ht⟩ := hv.th
    refine ⟨_, (pss_cons (ps_if (pt_or (pt_not (pt_val (pe_callB call_isTh (by rfl) T.isi (by decide +kernel) (pa_cons (pv 0) (pa_cons (pe_bltn (v := .ty "tuple") (u := .type "tuple") (by rfl) T.tuple_ (by decide +kernel) rfl) pa_nil))))) (pw_or (pt_cmpR op_ne (pe_callB call_len_seq (by rfl) T.len_ PySem.boot_len (pa_cons (pv 0) pa_nil)) pe_int (nomark _)) (pw_or1 (pt_not (pt_val (pe_c cI hr (by omega) (by rfl) (pa_cons (pe_ix ix_tup (pv 0) pe_int (fun _ _ => rfl)) (pa_cons pe_int (pa_cons (pv 1) pa_nil))))))))) (pss_one (ps_ret pe_bl)) pss_nil) (pss_one (ps_ret (pe_c cI hr (by omega) (by rfl) (pa_cons (pe_ix ix_tup (pv 0) pe_int (fun _ _ => rfl)) (pa_cons pe_int (pa_cons (pe_op op_sub (pe_callB call_len_seq (by rfl) T.len_ PySem.boot_len (pa_cons (pe_c cB hr (by omega) (by rfl) (pa_cons (pe_tup (pa_cons (pe_op op_sub (pv 1) (pe_ix ix_tup (pv 0) pe_int (fun _ _ => rfl))) (pa_cons pe_int pa_nil))) pa_nil)) pa_nil)) pe_int) pa_nil))))))), ?_⟩
    have no : nodeB H h v = false → ∀ G, Same H G → Q (.bl false) G := fun e G s => by
      rw [e] at q
      exact q _ s
    refine ⟨_, rfl, _, "tuple", t, rfl, ht, by decide, _, rfl, ?_⟩
    rcases tup_cases ht with ⟨a, xs, rfl, hx, e, rfl⟩ | ⟨e1, e2⟩
    rotate_left
    · rw [e2]
      exact iteT (no (by unfold nodeB; rw [e1]) _ (Same.refl _))
    refine iteF ⟨_, rfl, a, xs, rfl, .inr (.of hx), rfl, _, rfl, ?_⟩
    rw [← pairB_at e]
    cases hp : pairB H (.ref a) with
    | false =>
      exact iteT (no (nodeB_no hp) _ (Same.refl _))
    | true =>
    obtain ⟨a', x1, x2, ea, ha, ep, tx1, tx2⟩ := pair_of hv hp
    cases ea
    rw [e] at ep
    cases ep
    have en : nodeB H h (.ref a) = (belowV ((h : Int) + 1) x1 && belowV ((2 : Int) ^ (h - iV x1)) x2) := by unfold nodeB; rw [e]
    have el : levV H (.ref a) = iV x1 := by unfold levV; rw [e]
    have ef : (belowV ((h : Int) + 1) x1 && decide (iV x1 ≠ 0)) = betw 1 (h : Int) x1 := by
      cases x1 with
      | int i =>
        show (decide (0 ≤ i ∧ i < (h : Int) + 1) && decide (i.toNat ≠ 0)) = decide (1 ≤ i ∧ i ≤ (h : Int))
        rw [← Bool.decide_and]
        exact decide_eq_decide.mpr (by omega)
      | _ => rfl
    refine iteF ⟨_, rfl, a, _, _, x1, rfl, rfl, .of hx, atI_nat (j := 0) rfl, _, rfl, b, x1, _, _, rfl, tx1, _, rfl, ?_⟩
    have eq : (nodeB H h (.ref a) && decide (levV H (.ref a) ≠ 0)) = (betw 1 (h : Int) x1 && belowV ((2 : Int) ^ (h - iV x1)) x2) := by
      rw [en, el, ← ef, Bool.and_assoc, Bool.and_assoc, Bool.and_comm (belowV ((2 : Int) ^ (h - iV x1)) x2)]
    rw [eq] at q
    cases hb : betw 1 (h : Int) x1 with
    | false =>
      rw [hb] at q
      exact iteT (q _ (Same.refl _))
    | true =>
    rw [hb, Bool.true_and] at q
    obtain ⟨l, rfl, hl⟩ : ∃ l : Nat, x1 = .int (l : Nat) ∧ 1 ≤ l ∧ l ≤ h := by
      cases x1 with
      | int i =>
        have := of_decide_eq_true (show decide (1 ≤ i ∧ i ≤ (h : Int)) = true from hb)
        exact ⟨i.toNat, congrArg V.int (by omega), by omega, by omega⟩
      | _ => cases hb
    have ei : iV (.int (l : Nat)) = l := Int.toNat_natCast l
    rw [ei] at q
    refine iteF ⟨_, rfl, a, _, _, x2, rfl, rfl, .of hx, atI_nat (j := 1) rfl, ?_⟩
    refine ⟨_, rfl, _, rfl, a, _, _, .int (l : Nat), rfl, rfl, .of hx, atI_nat (j := 0) rfl, _, _, rfl, rfl, by show 2 ≤ sizeLine; decide, fun p np => ?_⟩
    have es : ((h : Nat) : Int) - ((l : Nat) : Int) = ((h - l : Nat) : Int) := by omega
    dsimp only
    rw [es]
    refine ⟨p, h - l, 0, rfl, upd_same, by omega, by decide, fun H2 lb s2 nlb hlb => ⟨lb, _, rfl, .inl (.of hlb), _, _, rfl, rfl, b, x2, _, _, rfl, (tx2.same (same_upd np)).same s2, ?_⟩⟩
    have s12 := (same_upd (o := HO.tup [.int ((h - l : Nat) : Int), .int 0]) np).trans s2
    rw [nN_len, ben_len]
    have e9 : betw 0 (((2 ^ (h - l) : Nat) : Int) - 1) x2 = belowV ((2 : Int) ^ (h - l)) x2 := by
      cases x2 with
      | int i =>
        have e : ((2 : Int) ^ (h - l)) = ((2 ^ (h - l) : Nat) : Int) := by push_cast; rfl
        show decide (0 ≤ i ∧ i ≤ ((2 ^ (h - l) : Nat) : Int) - 1) = decide (0 ≤ i ∧ i < (2 : Int) ^ (h - l))
        rw [e]
        exact decide_eq_decide.mpr (by omega)
      | _ => rfl
    rw [e9]
    exact q _ s12
end
end L2.My
end
section
set_option Elab.async false
set_option linter.all false
set_option maxRecDepth 100000
set_option maxHeartbeats 4000000
/-! The law's own judges: asides, nodes, the first part that is none. -/
namespace L2.My
open PySem PySem.Spec PyProof.Rows
abbrev sLas : Stmt := top 34
abbrev sLns : Stmt := top 35
abbrev sLbd : Stmt := top 36
def condA (ls : List V) (lev at' : Nat) (x : V) : Bool := decide (iV x / 2 ^ lev = at') && notNon (ls.getD (iV x) .non)
def chainA (ls : List V) (lev at' : Nat) : Int → List V → Bool
  | _, [] => true
  | p, x :: r => (belowV (ls.length : Int) x && (ltI p (intV x) && condA ls lev at' x)) && chainA ls lev at' (intV x) r
theorem chainA_cons {ls : List V} {lev at' : Nat} {p : Int} {x : V} {r : List V} : chainA ls lev at' p (x :: r) = ((belowV (ls.length : Int) x && (ltI p (intV x) && condA ls lev at' x)) && chainA ls lev at' (intV x) r) := rfl
theorem band_perm (a b c d e f : Bool) : ((a && (b && c)) && (d && (e && f))) = ((a && d) && ((b && e) && (c && f))) := by
  cases a <;> cases b <;> cases c <;> cases d <;> cases e <;> rfl
theorem chainA_eq {ls : List V} {lev at' : Nat} : ∀ {xs : List V} {p : Int}, chainA ls lev at' p xs = (xs.all (belowV (ls.length : Int)) && (ascBy ltI (p :: xs.map intV) && xs.all (condA ls lev at')))
  | [], _ => rfl
  | x :: r, p => by
    rw [chainA_cons, chainA_eq, band_perm]
    rfl
theorem asideB_chain {H : Hp} {ls : List V} {lev at' : Nat} {v : V} {xs : List V} (e : tupOf H v = some xs) : asideB H ls lev at' v = chainA ls lev at' (-1) xs := by
  rw [asideB_at e, chainA_eq]
  cases xs with
  | nil => rfl
  | cons x r =>
    cases hb : (x :: r).all (belowV (ls.length : Int)) with
    | false => rfl
    | true =>
      rw [List.all_cons, Bool.and_eq_true] at hb
      obtain ⟨h1, _, h3⟩ := below_int hb.1
      have e : ltI (-1) (intV x) = true := decide_eq_true (by omega)
      show (true && (ascBy ltI (intV x :: r.map intV) && _)) = (true && ((ltI (-1) (intV x) && ascBy ltI (intV x :: r.map intV)) && _))
      rw [e, Bool.true_and (ascBy _ _)]
      rfl
def chainN (H : Hp) (h : Nat) (ls : List V) : List Int → List V → Bool
  | _, [] => true
  | p, x :: r => (keptB H h ls x && HT.lexLt p (rowI H x)) && chainN H h ls (rowI H x) r
theorem chainN_cons {H : Hp} {h : Nat} {ls : List V} {p : List Int} {x : V} {r : List V} : chainN H h ls p (x :: r) = ((keptB H h ls x && HT.lexLt p (rowI H x)) && chainN H h ls (rowI H x) r) := rfl
theorem chainN_eq {H : Hp} {h : Nat} {ls : List V} : ∀ {xs : List V} {p : List Int}, chainN H h ls p xs = (xs.all (keptB H h ls) && ascBy HT.lexLt (p :: xs.map (rowI H)))
  | [], _ => rfl
  | x :: r, p => by
    rw [chainN_cons, chainN_eq]
    show ((_ && _) && (_ && _)) = ((_ && _) && (_ && _))
    generalize keptB H h ls x = a
    generalize HT.lexLt p (rowI H x) = b
    generalize r.all (keptB H h ls) = c
    cases a <;> cases b <;> cases c <;> rfl
theorem nodesB_chain {b : Addr} {H : Hp} {h : Nat} {ls : List V} {v : V} {xs : List V} (t : ∀ x ∈ xs, Thg b H x) (e : tupOf H v = some xs) : nodesB H h ls v = chainN H h ls [0, 0] xs := by
  rw [nodesB_at e, chainN_eq]
  cases xs with
  | nil => rfl
  | cons x r =>
    cases hb : (x :: r).all (keptB H h ls) with
    | false => rfl
    | true =>
      rw [List.all_cons, Bool.and_eq_true] at hb
      obtain ⟨a, na, l, c, rfl, _, _, h4, h5, _, _, tn, _, _, h9⟩ := kept_of (t x List.mem_cons_self) hb.1
      obtain ⟨a2, _, _, _, _, _, h6⟩ := node_of tn h4
      have e : HT.lexLt [0, 0] (rowI H (.ref a)) = true := by
        rw [h9, h6, HT.lexLt_cons, if_neg (by omega), decide_eq_true_eq]
        omega
      show (true && ascBy HT.lexLt (rowI H (.ref a) :: r.map (rowI H))) = (true && (HT.lexLt [0, 0] (rowI H (.ref a)) && ascBy HT.lexLt (rowI H (.ref a) :: r.map (rowI H))))
      rw [e]
      rfl
theorem le2 (a b c d : Int) : Ob.lexAt (fun j => decide (([a, b] : List Int).getD j 0 = ([c, d] : List Int).getD j 0)) (fun j => decide (([a, b] : List Int).getD j 0 ≤ ([c, d] : List Int).getD j 0)) (decide (([a, b] : List Int).length ≤ ([c, d] : List Int).length)) 0 (min ([a, b] : List Int).length ([c, d] : List Int).length) = !HT.lexLt [c, d] [a, b] := by
  show Ob.lexAt _ _ _ 0 2 = _
  rw [Ob.lexAt_succ, Ob.lexAt_succ, Ob.lexAt_zero, HT.lexLt_cons, HT.lexLt_cons, HT.lexLt_nil_nil]
  show (if decide (a = c) = true then (if decide (b = d) = true then true else decide (b ≤ d)) else decide (a ≤ c)) = _
  by_cases h1 : a = c
  · rw [if_pos (decide_eq_true h1), if_pos h1.symm]
    by_cases h2 : b = d
    · rw [if_pos (decide_eq_true h2), if_pos h2.symm]; rfl
    · rw [if_neg (by simpa using h2), if_neg (Ne.symm h2)]
      by_cases h3 : d < b
      · rw [decide_eq_true h3, decide_eq_false (by omega)]; rfl
      · rw [decide_eq_false h3, decide_eq_true (by omega)]; rfl
  · rw [if_neg (by simpa using h1), if_neg (Ne.symm h1)]
    by_cases h3 : c < a
    · rw [decide_eq_true h3, decide_eq_false (by omega)]; rfl
    · rw [decide_eq_false h3, decide_eq_true (by omega)]; rfl
theorem dp_nats2 {K : PySem.W.Frag} {H : Hp} (l : List Nat) : DpAll K H (nN l) (l.map fun (j : Nat) => PyData.int j) := dpNats l
theorem any_nats (i : Nat) : ∀ l : List Nat, ((l.map fun (j : Nat) => PyData.int j).any fun y => PyData.eqv y (.int (i : Nat))) = decide (i ∈ l)
  | [] => rfl
  | y :: r => by
    rw [List.map_cons, List.any_cons, any_nats i r, eqv_int, ← Bool.decide_or]
    refine decide_eq_decide.mpr ?_
    rw [List.mem_cons]
    exact or_congr_left ⟨fun h => by omega, fun h => by omega⟩
theorem can_nats : ∀ l : List Nat, PyData.canLayAll0 (l.map fun (j : Nat) => PyData.int j) = true
  | [] => rfl
  | z :: r => by
    rw [List.map_cons, PyData.canLayAll0, can_nats r]
    rfl
theorem dep_nats : ∀ l : List Nat, PyData.depthAll (l.map fun (j : Nat) => PyData.int j) ≤ 1
  | [] => by decide
  | z :: r => by
    have := dep_nats r
    simp only [List.map_cons, PyData.depthAll, PyData.depth]
    omega
theorem shaped_nats (l : List Nat) : SeqAt.shaped (.list (l.map fun (j : Nat) => PyData.int j)) = true := by
  have h1 : PyData.canLay0 (.list (l.map fun (j : Nat) => PyData.int j)) = true := by rw [PyData.canLay0]; exact can_nats l
  have h2 := dep_nats l
  unfold SeqAt.shaped
  rw [h1, Bool.true_and]
  refine decide_eq_true ?_
  simp only [PyData.depth]
  omega
theorem shaped_int (i : Int) : SeqAt.shaped (.int i) = true := by
  unfold SeqAt.shaped
  rw [PyData.depth]
  rfl
theorem rNotIn_nats {K : PySem.W.Frag} {H : Hp} {a : Addr} {i : Nat} {l : List Nat} {Q : VK} (h : H a = some (.lst (nN l))) (q : Q (.bl (!decide (i ∈ l))) H) : rNotInD K (.int (i : Nat)) (.ref a) H Q :=
  ⟨.int (i : Nat), l.map fun (j : Nat) => PyData.int j, .int _, .lst (.of h) (dpNats l), shaped_int _, shaped_nats l, by rw [any_nats]; exact q⟩
theorem mem_ben {lev idx j : Nat} : j ∈ benL lev idx ↔ j / 2 ^ lev = idx := by
  refine ⟨fun h => (ben_mem h).1, fun h => ?_⟩
  have h2 := Nat.mod_lt j (Nat.two_pow_pos lev)
  refine List.mem_map.mpr ⟨j % 2 ^ lev, List.mem_range.mpr h2, ?_⟩
  rw [← h, Nat.mul_comm]
  exact Nat.div_add_mod j (2 ^ lev)
def spLas : Sp := fun vs H Q _ => ∃ (b na la : Addr) (h lev at' : Nat) (ls : List V) (v : V), vs = [v, .ref na, .ref la] ∧ h ≤ 8 ∧ lev ≤ h ∧ at' < 2 ^ (h - lev) ∧ H na = some (.tup [.int (lev : Nat), .int (at' : Nat)]) ∧ H la = some (.tup ls) ∧ ls.length = 2 ^ h ∧ Thg b H v ∧ ∀ H', Same H H' → Q (.bl (asideB H ls lev at' v)) H'
def spLns : Sp := fun vs H Q _ => ∃ (b : Addr) (h : Nat) (la : Addr) (ls : List V) (v : V), vs = [.int (h : Int), .ref la, v] ∧ h ≤ 8 ∧ H la = some (.tup ls) ∧ ls.length = 2 ^ h ∧ Thg b H v ∧ ∀ H', Same H H' → Q (.bl (nodesB H h ls v)) H'
def badV : Option Str → V
  | none => .non
  | some z => .str z
def spLbd : Sp := fun vs H Q _ => ∃ (b p : Addr) (h l n : V), vs = [.ref p] ∧ H p = some (.lst [h, l, n]) ∧ Thg b H h ∧ Thg b H l ∧ Thg b H n ∧ ∀ H', Same H H' → Q (badV (badT H h l n)) H'
section
variable {P : Program} {w : World} {K : PySem.W.Frag} {mg : Str → Option Value} {base : Heap}
abbrev nLas : List Str := ["thing", "node", "leaves", "ahead", "beneath", "leaf"]
theorem scLas : FnScope nLas ["thing", "node", "leaves"] (defScope sLas) := ⟨rfl, rfl, rfl, by decide +kernel, rfl, by decide +kernel, by decide +kernel⟩
theorem ok_las {f : Addr} {fd : FuncData} {k : Nat} (F : Fun K "_law_aside" "_law_aside" sLas f fd) (T : Tx mg) (cB : Cal P w K mg base (k + 1) "_law_beneath" ["node"] spBen) (cI : Cal P w K mg base (k + 1) "_law_int" ["thing", "least", "most"] spLint) : FnOk P w K mg base CX0 (k + 2) f fd ["thing", "node", "leaves"] spLas := by
  refine F.ok scLas (fun vs H Q E h => ?_) (fun cdv A outer s H vs Q E hr h => ?_)
  · obtain ⟨b, na, la, h, lev, at', ls, v, rfl, _⟩ := h
    rfl
  · obtain ⟨b, na, la, h, lev, at', ls, v, rfl, hh, hl, ha, hna, hla, hll, hv, q⟩ := h
    obtain ⟨t, ht⟩ := hv.th
    refine ⟨_, (pss_cons (ps_if (pt_not (pt_val (pe_callB call_isTh (by rfl) T.isi (by decide +kernel) (pa_cons (pv 0) (pa_cons (pe_bltn (v := .ty "tuple") (u := .type "tuple") (by rfl) T.tuple_ (by decide +kernel) rfl) pa_nil))))) (pss_one (ps_ret pe_bl)) pss_nil) (pss_cons (ps_set (i := 3) scLas.nd rfl (Or.inl rfl) (pe_un un_neg pe_int)) (pss_cons (ps_set (i := 4) scLas.nd rfl (Or.inl rfl) (pe_c cB hr (by omega) (by rfl) (pa_cons (pv 1) pa_nil))) (pss_cons (ps_for PassesOwn.never rfl (pi_tup (pv 0)) (pg_name (i := 5) scLas.nd rfl (Or.inl rfl)) (pss_cons (ps_if (pt_or (pt_not (pt_val (pe_c cI hr (by omega) (by rfl) (pa_cons (pv 5) (pa_cons (pe_op op_add (pv 3) pe_int) (pa_cons (pe_callB call_len_seq (by rfl) T.len_ PySem.boot_len (pa_cons (pv 2) pa_nil)) pa_nil)))))) (pw_or (pt_cmpR (op_notInD (u65 hr)) (pv 5) (pv 4) rfl) (pw_or1 (pt_cmpR op_isN (pe_ix ix_tup (pv 2) (pv 5) (fun _ _ => rfl)) pe_non (nomark _))))) (pss_one (ps_ret pe_bl)) pss_nil) (pss_one (ps_set (i := 3) scLas.nd rfl (Or.inl rfl) (pv 5))))) (pss_one (ps_ret pe_bl)))))), ?_⟩
    refine ⟨_, rfl, _, "tuple", t, rfl, ht, by decide, _, rfl, ?_⟩
    rcases tup_cases ht with ⟨a, xs, rfl, hx, e, rfl⟩ | ⟨e1, e2⟩
    rotate_left
    · rw [e2]
      rw [asideB_no e1] at q
      exact iteT (q _ (Same.refl _))
    obtain ⟨hlx, hxs⟩ := hv.sub hx
    rw [asideB_chain e] at q
    have p1 := pow8 hh
    have p2 : at' ≤ 1000 := by
      have : 2 ^ (h - lev) ≤ 256 := pow8 (by omega)
      omega
    refine iteF ⟨_, rfl, _, rfl, na, lev, at', rfl, hna, by omega, p2, fun H2 lb s2 nlb hlb => ?_⟩
    refine ⟨_, rfl, a, rfl, ⟨_, SqT.of (s2 _ _ hx)⟩, ?_⟩
    refine for_it (walk_tup (xs := xs)) (fun i σ G => ∃ (y5 : Option V) (p : Int), σ = [some (.ref a), some (.ref na), some (.ref la), some (.int p), some (.ref lb), y5] ∧ Same H G ∧ G lb = some (.lst (nN (benL lev at'))) ∧ -1 ≤ p ∧ chainA ls lev at' (-1) xs = chainA ls lev at' p (xs.drop i)) ⟨_, -1, rfl, s2, hlb, by decide, rfl⟩ (fun i σ G _ hG => ?_) ?_ ?_
    · obtain ⟨_, _, _, sG, _⟩ := hG
      exact .of (sG _ _ hx)
    · rintro i y σ G G' hi ⟨y5, p, rfl, sG, hlb, hp, hc⟩ ⟨rfl, hy⟩
      obtain ⟨hi', hy'⟩ := List.getElem?_eq_some_iff.mp hy
      have ed : xs.drop i = y :: xs.drop (i + 1) := by rw [← hy']; exact List.drop_eq_getElem_cons hi'
      rw [ed, chainA_cons] at hc
      have ty := hxs y (List.mem_of_getElem? hy)
      have bad : (belowV (ls.length : Int) y && (ltI p (intV y) && condA ls lev at' y)) = false → ∀ G2, Same H G2 → Q (.bl false) G2 := fun e G2 s => by
        rw [e, Bool.false_and] at hc
        rw [hc] at q
        exact q _ s
      refine ⟨_, rfl, _, rfl, _, _, rfl, rfl, _, rfl, la, ls, rfl, .inr (.of (sG _ _ hla)), b, y, _, _, rfl, ty.same sG, _, rfl, ?_⟩
      cases hb : betw (p + 1) (ls.length : Nat) y with
      | false =>
        refine iteT (bad ?_ _ sG)
        cases y with
        | int i =>
          have hb := of_decide_eq_false (show decide (p + 1 ≤ i ∧ i ≤ ((ls.length : Nat) : Int)) = false from hb)
          show (decide (0 ≤ i ∧ i < ((ls.length : Nat) : Int)) && (decide (p < i) && _)) = false
          by_cases h1 : p < i
          · rw [decide_eq_false (by omega)]; rfl
          · rw [decide_eq_false h1, Bool.false_and, Bool.and_false]
        | _ => rfl
      | true =>
      obtain ⟨c, rfl, hc1, hc2⟩ : ∃ c : Nat, y = .int (c : Nat) ∧ p < (c : Nat) ∧ c ≤ ls.length := by
        cases y with
        | int i =>
          have := of_decide_eq_true (show decide (p + 1 ≤ i ∧ i ≤ ((ls.length : Nat) : Int)) = true from hb)
          exact ⟨i.toNat, congrArg V.int (by omega), by omega, by omega⟩
        | _ => cases hb
      have ei : iV (.int (c : Nat)) = c := Int.toNat_natCast c
      have ec : condA ls lev at' (.int (c : Nat)) = (decide (c / 2 ^ lev = at') && notNon (ls.getD c .non)) := by
        unfold condA
        rw [ei]
      refine iteF ⟨_, rfl, _, rfl, rNotIn_nats hlb ⟨_, rfl, ?_⟩⟩
      by_cases hm : c ∈ benL lev at'
      rotate_left
      · rw [decide_eq_false hm]
        refine iteT (bad ?_ _ sG)
        rw [ec, decide_eq_false (fun z => hm (mem_ben.mpr z)), Bool.false_and, Bool.and_false, Bool.and_false]
      rw [decide_eq_true hm]
      have hcl : c < ls.length := by
        rw [hll]
        exact ben_lt hm ha hl
      have hv2 : ls[c]? = some ls[c] := List.getElem?_eq_getElem hcl
      have hg : ls.getD c .non = ls[c] := by rw [List.getD_eq_getElem?_getD, hv2]; rfl
      refine iteF ⟨_, rfl, _, rfl, la, ls, _, ls[c], rfl, rfl, .of (sG _ _ hla), atI_nat hv2, rfl, _, rfl, ?_⟩
      cases hnn : notNon ls[c] with
      | false =>
        have e9 : decide (ls[c] = V.non) = true := by
          have := nonN ls[c]
          rw [hnn] at this
          simpa using this
        rw [e9]
        refine iteT (bad ?_ _ sG)
        rw [ec, hg, hnn, Bool.and_false, Bool.and_false, Bool.and_false]
      | true =>
        have e9 : decide (ls[c] = V.non) = false := by
          have := nonN ls[c]
          rw [hnn] at this
          simpa using this
        rw [e9]
        have g1 : belowV (ls.length : Int) (.int (c : Nat)) = true := decide_eq_true (show (0 : Int) ≤ (c : Nat) ∧ ((c : Nat) : Int) < (ls.length : Int) by omega)
        have g2 : ltI p (intV (.int (c : Nat))) = true := decide_eq_true hc1
        rw [g1, g2, ec, hg, hnn, decide_eq_true (mem_ben.mp hm)] at hc
        exact iteF ⟨_, rfl, _, _, rfl, sG, hlb, by omega, hc⟩
    · rintro σ G ⟨y5, p, rfl, sG, hlb, hp, hc⟩
      rw [List.drop_length] at hc
      rw [hc] at q
      exact q _ sG
abbrev nLns : List Str := ["height", "leaves", "nodes", "ahead", "node"]
theorem scLns : FnScope nLns ["height", "leaves", "nodes"] (defScope sLns) := ⟨rfl, rfl, rfl, by decide +kernel, rfl, by decide +kernel, by decide +kernel⟩
theorem ok_lns {f : Addr} {fd : FuncData} {k : Nat} (F : Fun K "_law_nodes" "_law_nodes" sLns f fd) (T : Tx mg) (cN : Cal P w K mg base (k + 2) "_law_node" ["thing", "height"] spLnd) (cI : Cal P w K mg base (k + 2) "_law_int" ["thing", "least", "most"] spLint) (cA : Cal P w K mg base (k + 2) "_law_aside" ["thing", "node", "leaves"] spLas) : FnOk P w K mg base CX0 (k + 3) f fd ["height", "leaves", "nodes"] spLns := by
  refine F.ok scLns (fun vs H Q E h => ?_) (fun cdv A outer s H vs Q E hr h => ?_)
  · obtain ⟨b, h, la, ls, v, rfl, _⟩ := h
    rfl
  · obtain ⟨b, h, la, ls, v, rfl, hh, hla, hll, hv, q⟩ := h
    obtain ⟨t, ht⟩ := hv.th
    refine ⟨_, (pss_cons (ps_if (pt_not (pt_val (pe_callB call_isTh (by rfl) T.isi (by decide +kernel) (pa_cons (pv 2) (pa_cons (pe_bltn (v := .ty "tuple") (u := .type "tuple") (by rfl) T.tuple_ (by decide +kernel) rfl) pa_nil))))) (pss_one (ps_ret pe_bl)) pss_nil) (pss_cons (ps_set (i := 3) scLns.nd rfl (Or.inl rfl) (pe_tup (pa_cons pe_int (pa_cons pe_int pa_nil)))) (pss_cons (ps_for PassesOwn.never rfl (pi_tup (pv 2)) (pg_name (i := 4) scLns.nd rfl (Or.inl rfl)) (pss_cons (ps_if (pt_or (pt_not (pt_val (pe_callB call_isTh (by rfl) T.isi (by decide +kernel) (pa_cons (pv 4) (pa_cons (pe_bltn (v := .ty "tuple") (u := .type "tuple") (by rfl) T.tuple_ (by decide +kernel) rfl) pa_nil))))) (pw_or (pt_cmpR op_ne (pe_callB call_len_seq (by rfl) T.len_ PySem.boot_len (pa_cons (pv 4) pa_nil)) pe_int (nomark _)) (pw_or (pt_not (pt_val (pe_c cN hr (by omega) (by rfl) (pa_cons (pe_ix ix_tup (pv 4) pe_int (fun _ _ => rfl)) (pa_cons (pv 0) pa_nil))))) (pw_or1 (pt_cmpR (op_leT (lt_un hr)) (pe_ix ix_tup (pv 4) pe_int (fun _ _ => rfl)) (pv 3) (nomark _)))))) (pss_one (ps_ret pe_bl)) pss_nil) (pss_cons (ps_if (pt_or (pt_not (pt_val (pe_c cI hr (by omega) (by rfl) (pa_cons (pe_ix ix_tup (pv 4) pe_int (fun _ _ => rfl)) (pa_cons pe_int (pa_cons (pe_op op_pow pe_int pe_int) pa_nil)))))) (pw_or1 (pt_not (pt_val (pe_c cA hr (by omega) (by rfl) (pa_cons (pe_ix ix_tup (pv 4) pe_int (fun _ _ => rfl)) (pa_cons (pe_ix ix_tup (pv 4) pe_int (fun _ _ => rfl)) (pa_cons (pv 1) pa_nil)))))))) (pss_one (ps_ret pe_bl)) pss_nil) (pss_one (ps_set (i := 3) scLns.nd rfl (Or.inl rfl) (pe_ix ix_tup (pv 4) pe_int (fun _ _ => rfl))))))) (pss_one (ps_ret pe_bl))))), ?_⟩
    refine ⟨_, rfl, _, "tuple", t, rfl, ht, by decide, _, rfl, ?_⟩
    rcases tup_cases ht with ⟨a, xs, rfl, hx, e, rfl⟩ | ⟨e1, e2⟩
    rotate_left
    · rw [e2]
      rw [nodesB_no e1] at q
      exact iteT (q _ (Same.refl _))
    obtain ⟨hlx, hxs⟩ := hv.sub hx
    rw [nodesB_chain hxs e] at q
    refine iteF ⟨by show 2 ≤ sizeLine; decide, fun p np => ?_⟩
    have s1 := same_upd (o := HO.tup [.int 0, .int 0]) np
    have hp1 : (upd H p (.tup [.int 0, .int 0])) p = some (.tup [.int 0, .int 0]) := upd_same
    generalize upd H p (.tup [.int 0, .int 0]) = H1 at *
    refine ⟨_, rfl, a, rfl, ⟨_, SqT.of (s1 _ _ hx)⟩, ?_⟩
    refine for_it (walk_tup (xs := xs)) (fun i σ G => ∃ (y4 : Option V) (pa : Addr) (c d : Int), σ = [some (.int (h : Nat)), some (.ref la), some (.ref a), some (.ref pa), y4] ∧ Same H G ∧ G pa = some (.tup [.int c, .int d]) ∧ chainN H h ls [0, 0] xs = chainN H h ls [c, d] (xs.drop i)) ⟨_, p, 0, 0, rfl, s1, hp1, rfl⟩ (fun i σ G _ hG => ?_) ?_ ?_
    · obtain ⟨_, _, _, _, _, sG, _⟩ := hG
      exact .of (sG _ _ hx)
    · rintro i y σ G G' hi ⟨y4, pa, c0, d0, rfl, sG, hpa, hc⟩ ⟨rfl, hy⟩
      obtain ⟨hi', hy'⟩ := List.getElem?_eq_some_iff.mp hy
      have ed : xs.drop i = y :: xs.drop (i + 1) := by rw [← hy']; exact List.drop_eq_getElem_cons hi'
      rw [ed, chainN_cons] at hc
      have ty := hxs y (List.mem_of_getElem? hy)
      have bad : (keptB H h ls y && HT.lexLt [c0, d0] (rowI H y)) = false → ∀ G2, Same H G2 → Q (.bl false) G2 := fun e G2 s => by
        rw [e, Bool.false_and] at hc
        rw [hc] at q
        exact q _ s
      have badK : keptB H h ls y = false → ∀ G2, Same H G2 → Q (.bl false) G2 := fun e => bad (by rw [e]; rfl)
      obtain ⟨t2, ht2⟩ := (ty.same sG).th
      refine ⟨_, rfl, _, "tuple", t2, rfl, ht2, by decide, _, rfl, ?_⟩
      rcases tup_cases ht2 with ⟨yr, ys, rfl, hc1, e1, rfl⟩ | ⟨e1, e2⟩
      rotate_left
      · rw [e2]
        exact iteT (badK (keptB_no (by rw [← tupOf_bl ty (.same sG)]; exact e1)) _ sG)
      have e0 : tupOf H (.ref yr) = some ys := by rw [← tupOf_bl ty (.same sG)]; exact e1
      refine iteF ⟨_, rfl, yr, ys, rfl, .inr (.of hc1), rfl, _, rfl, ?_⟩
      have hd : decide (V.int (ys.length : Nat) = V.int 3) = decide (ys.length = 3) := by
        rw [dec_int, Bool.eq_iff_iff, beq_iff_eq, decide_eq_true_iff]
        omega
      rw [hd]
      by_cases h3 : ys.length = 3
      rotate_left
      · rw [decide_eq_false h3]
        exact iteT (badK (keptB_len e0 h3) _ sG)
      rw [decide_eq_true h3]
      obtain ⟨n, l, c, rfl⟩ : ∃ n l c, ys = [n, l, c] := by
        match ys, h3 with
        | [n, l, c], _ => exact ⟨n, l, c, rfl⟩
      have hyH : H yr = some (.tup [n, l, c]) := by
        obtain ⟨a2, ea, h2, _⟩ := tupOf_sub ty e0
        cases ea
        exact h2
      obtain ⟨_, hys⟩ := ty.sub hyH
      have tn := hys n (by simp)
      have tl := hys l (by simp)
      have tc := hys c (by simp)
      have ek := keptB_at (h := h) (ls := ls) e0
      refine iteF ⟨_, rfl, yr, _, _, n, rfl, rfl, .of hc1, atI_nat (j := 0) rfl, _, rfl, b, h, n, rfl, hh, tn.same sG, fun G2 s2 => ⟨_, rfl, ?_⟩⟩
      have sG2 := sG.trans s2
      have en : (nodeB G' h n && decide (levV G' n ≠ 0)) = (nodeB H h n && decide (levV H n ≠ 0)) := by rw [nodeB_bl tn (.same sG), levV_bl tn (.same sG)]
      rw [en]
      rw [← Bool.and_assoc] at ek
      cases hnb : (nodeB H h n && decide (levV H n ≠ 0)) with
      | false =>
        rw [hnb] at ek
        exact iteT (badK ek _ sG2)
      | true =>
      rw [hnb, Bool.true_and] at ek
      obtain ⟨hn1, hn2⟩ := Bool.and_eq_true_iff.mp hnb
      have hn2 := of_decide_eq_true hn2
      obtain ⟨na, rfl, hna, ena, hlev, hat, hni⟩ := node_of tn hn1
      have er : rowI H (.ref yr) = [((levV H (.ref na) : Nat) : Int), ((atV H (.ref na) : Nat) : Int)] := by
        rw [← hni]
        unfold rowI
        rw [e0]
      rw [er] at hc bad
      generalize levV H (.ref na) = lev at *
      generalize atV H (.ref na) = at' at *
      have hc2 := s2 _ _ hc1
      have hna2 := sG2 _ _ hna
      refine iteF ⟨_, rfl, yr, _, _, .ref na, rfl, rfl, .of hc2, atI_nat (j := 0) rfl, _, rfl, na, pa, [((lev : Nat) : Int), ((at' : Nat) : Int)], [c0, d0], rfl, rfl, .of hna2, .of (s2 _ _ hpa), ?_⟩
      rw [le2]
      refine ⟨_, rfl, ?_⟩
      cases hlx2 : HT.lexLt [c0, d0] [((lev : Nat) : Int), ((at' : Nat) : Int)] with
      | false => exact iteT (bad (by rw [hlx2, Bool.and_false]) _ sG2)
      | true =>
      rw [hlx2, Bool.and_true] at hc
      refine iteF ⟨_, rfl, yr, _, _, l, rfl, rfl, .of hc2, atI_nat (j := 1) rfl, _, _, rfl, rfl, ⟨by decide, by decide, by decide⟩, b, l, _, _, rfl, tl.same sG2, _, rfl, ?_⟩
      rw [betw_num tl]
      cases hnu : numV l with
      | false => exact iteT (badK (by rw [ek, hnu]; rfl) _ sG2)
      | true =>
      rw [hnu, Bool.true_and] at ek
      refine iteF ⟨_, rfl, yr, _, _, c, rfl, rfl, .of hc2, atI_nat (j := 2) rfl, _, rfl, yr, _, _, .ref na, rfl, rfl, .of hc2, atI_nat (j := 0) rfl, _, rfl, b, na, la, h, lev, at', ls, c, rfl, hh, hlev, Int.ofNat_lt.mp (by push_cast; exact hat), hna2, sG2 _ _ hla, hll, tc.same sG2, fun G3 s3 => ⟨_, rfl, ?_⟩⟩
      rw [asideB_bl tc (.same sG2), ← ek]
      cases hk : keptB H h ls (.ref yr) with
      | false => exact iteT (badK hk _ (sG2.trans s3))
      | true =>
        rw [hk, Bool.true_and] at hc
        exact iteF ⟨_, rfl, yr, _, _, .ref na, rfl, rfl, .of (s3 _ _ hc2), atI_nat (j := 0) rfl, _, na, _, _, rfl, sG2.trans s3, s3 _ _ hna2, hc⟩
    · rintro σ G ⟨y4, pa, c0, d0, rfl, sG, hpa, hc⟩
      rw [List.drop_length] at hc
      rw [hc] at q
      exact q _ sG
theorem scLbd : FnScope ["parts"] ["parts"] (defScope sLbd) := ⟨rfl, rfl, rfl, by decide +kernel, rfl, by decide +kernel, by decide +kernel⟩
theorem ok_lbd {f : Addr} {fd : FuncData} {k : Nat} (F : Fun K "_law_bad" "_law_bad" sLbd f fd) (T : Tx mg) (cI : Cal P w K mg base (k + 3) "_law_int" ["thing", "least", "most"] spLint) (cM : Cal P w K mg base (k + 3) "_law_members" ["height", "leaves"] spMbs) (cN : Cal P w K mg base (k + 3) "_law_nodes" ["height", "leaves", "nodes"] spLns) : FnOk P w K mg base CX0 (k + 4) f fd ["parts"] spLbd := by
  refine F.ok scLbd (fun vs H Q E h => ?_) (fun cdv A outer s H vs Q E hr h => ?_)
  · obtain ⟨b, p, h, l, n, rfl, _⟩ := h
    rfl
  · obtain ⟨b, p, h, l, n, rfl, hp, th, tl, tn, q⟩ := h
    refine ⟨_, (pss_cons (ps_if (pt_not (pt_val (pe_c cI hr (by omega) (by rfl) (pa_cons (pe_ix ix_list (pv 0) pe_int (fun _ _ => rfl)) (pa_cons pe_int (pa_cons pe_int pa_nil)))))) (pss_one (ps_ret pe_str)) pss_nil) (pss_cons (ps_if (pt_not (pt_val (pe_c cM hr (by omega) (by rfl) (pa_cons (pe_ix ix_list (pv 0) pe_int (fun _ _ => rfl)) (pa_cons (pe_ix ix_list (pv 0) pe_int (fun _ _ => rfl)) pa_nil))))) (pss_one (ps_ret pe_str)) pss_nil) (pss_one (ps_ret (pe_ifExp (pt_val (pe_c cN hr (by omega) (by rfl) (pa_cons (pe_ix ix_list (pv 0) pe_int (fun _ _ => rfl)) (pa_cons (pe_ix ix_list (pv 0) pe_int (fun _ _ => rfl)) (pa_cons (pe_ix ix_list (pv 0) pe_int (fun _ _ => rfl)) pa_nil))))) pe_non pe_str))))), ?_⟩
    refine ⟨_, rfl, p, _, _, h, rfl, rfl, .of hp, atI_nat (j := 0) rfl, b, h, _, _, rfl, th, _, rfl, ?_⟩
    have e9 : betw 0 8 h = belowV 9 h := by
      cases h with
      | int i =>
        show decide (0 ≤ i ∧ i ≤ 8) = decide (0 ≤ i ∧ i < 9)
        exact decide_eq_decide.mpr (by omega)
      | _ => rfl
    rw [e9]
    unfold badT at q
    cases hb : belowV 9 h with
    | false =>
      rw [hb] at q
      exact iteT (q _ (Same.refl _))
    | true =>
    rw [hb, if_pos rfl] at q
    obtain ⟨b1, b2, b3⟩ := below_int hb
    generalize iV h = hn at *
    subst b1
    refine iteF ⟨_, rfl, p, _, _, .int (hn : Nat), rfl, rfl, .of hp, atI_nat (j := 0) rfl, _, rfl, p, _, _, l, rfl, rfl, .of hp, atI_nat (j := 1) rfl, b, hn, l, rfl, by omega, tl, fun H2 s2 => ⟨_, rfl, ?_⟩⟩
    cases hl : leavesB H hn l with
    | false =>
      rw [hl] at q
      exact iteT (q _ s2)
    | true =>
    rw [hl, if_pos rfl] at q
    obtain ⟨ls, els⟩ := leavesB_tup hl
    obtain ⟨la, rfl, hla, _, _⟩ := tupOf_sub tl els
    rw [els, Option.getD_some] at q
    have hll : ls.length = 2 ^ hn := by
      rw [leavesB_at els, Bool.and_eq_true] at hl
      exact of_decide_eq_true hl.1
    have hp2 := s2 _ _ hp
    refine iteF ⟨_, rfl, p, _, _, .int (hn : Nat), rfl, rfl, .of hp2, atI_nat (j := 0) rfl, _, rfl, p, _, _, .ref la, rfl, rfl, .of hp2, atI_nat (j := 1) rfl, _, rfl, p, _, _, n, rfl, rfl, .of hp2, atI_nat (j := 2) rfl, b, hn, la, ls, n, rfl, by omega, s2 _ _ hla, hll, tn.same s2, fun H3 s3 => ⟨_, rfl, ?_⟩⟩
    rw [nodesB_bl tn (.same s2)]
    cases hnn : nodesB H hn ls n with
    | false =>
      rw [hnn] at q
      exact iteF (q _ (s2.trans s3))
    | true =>
      rw [hnn] at q
      exact iteT (q _ (s2.trans s3))
end
end L2.My
end
section
set_option Elab.async false
set_option linter.all false
set_option maxRecDepth 100000
set_option maxHeartbeats 4000000
/-! tuple(reversed(a tuple)). -/
namespace L2.My
open PySem PySem.Spec PyProof.Rows RT
theorem rt_len : typeLookup (.type "reversed") "__len__" = pure none := by rw [typeLookup_type, builtinLookup_eq_fast]; kernel_rfl
theorem rt_hint : typeLookup (.type "reversed") "__length_hint__" = pure (some (.builtin "reversed.__length_hint__")) := by rw [typeLookup_type, builtinLookup_eq_fast]; kernel_rfl
theorem slot_rt_hint : Slot "reversed" "__length_hint__" "reversed.__length_hint__" :=
  .of (owner := "reversed") (n := "__length_hint__") (by rw [typeLookup_type, builtinLookup_eq_fast]; kernel_rfl) (by decide +kernel) (by decide +kernel) (by decide +kernel)
    (by first | exact .inl (by decide +kernel) | exact .inr (by decide +kernel)) (by rw [isSubtype_type]; kernel_rfl)
theorem entry_rt_hint : entryFor table "reversed.__length_hint__" = some Builtin.«reversed.__length_hint__» := entryFor_of_tree (by kernel_rfl)
theorem args_rt_hint (a : Value) : argsOk "reversed.__length_hint__" ⟨[a], []⟩ := by
  unfold argsOk; rw [signature?_of (id := "reversed.__length_hint__") (n := ['_', '_', 't', 'n', 'i', 'h', '_', 'h', 't', 'g', 'n', 'e', 'l', '_', '_']) (o := ['d', 'e', 's', 'r', 'e', 'v', 'e', 'r']) (by kernel_rfl) owner_rt]; kernel_rfl
theorem ty_rt_hint : typeOf (.builtin "reversed.__length_hint__") = pure (.type "method_descriptor") := by kernel_rfl
section
variable {prog : Program} {w : World} {A : Around} {E : Value → Shared → Prop} {s : Shared} {it t : Addr} {items : Array Value}
theorem fld_rt {Q : Value → Shared → Prop} {i : Int} (hit : IsRt s.heap it t i) (ht : IsTup s.heap t items) (hsz : items.size ≤ sizeLine) (hi : i < items.size) (h : ∀ u k, Q (.int (i + 1) u) { s with toks := k }) : wpAny (model prog w) A (call (.builtin "reversed.__length_hint__") [.ref it]) Q E s := by
  obtain ⟨o, ho, hc, hd⟩ := id hit
  refine wpAny_call_entry slot_rt_hint hit.typeIs entry_rt_hint ?_ (args_rt_hint _)
  unfold Builtin.«reversed.__length_hint__»
  refine wpAny_bind (wpAny_of_eq (a := Value.ref it) (by first | rfl | kernel_rfl) ?_)
  try dsimp only
  refine wpAny_bind (wpAny_field ho hd (x := .ref t) rfl ?_)
  try dsimp only
  rw [if_neg (show ¬ (Value.ref t == Value.none) = true from by simp)]
  have hz : (items.size : Int) < 2 ^ 63 := by
    have := line63
    omega
  refine wpAny_bind (len_tuple ht hz ?_)
  refine wpAny_bind (wpAny_of_eq (a := some ((items.size : Nat) : Int)) rfl ?_)
  try dsimp only
  refine wpAny_bind (wpAny_field (s := { s with toks := s.toks + 1 + 1 }) ho hd (x := rawInt i) rfl ?_)
  show wpAny _ _ (if ((items.size : Nat) : Int) < i + 1 then _ else _) _ _ _
  rw [if_neg (by omega)]
  unfold retInt
  refine wpAny_bind (wpAny_mkInt ?_)
  exact wpAny_pure ⟨_, rfl, h _ _⟩
theorem hint_rt {Q : Bool → Shared → Prop} {i : Int} (hit : IsRt s.heap it t i) (ht : IsTup s.heap t items) (hsz : items.size ≤ sizeLine) (h0 : -1 ≤ i) (hi : i < items.size) (h : ∀ b k, Q b { s with toks := k }) : wpAny (model prog w) A (Builtin.List.listLengthHint (.ref it)) Q E s := by
  have hT := hit.typeIs
  unfold Builtin.List.listLengthHint
  refine wpAny_bind (wpAny_specialOf hT rt_len ?_)
  show wpAny _ A (specialOf (Value.ref it) (Str.ofString "__length_hint__") >>= _) _ _ _
  refine wpAny_bind (wpAny_specialOf hT rt_hint ?_)
  generalize hid : ("reversed.__length_hint__" : String) = id0
  wp_delta
  rw [show splitId id0 = some ("reversed", "__length_hint__") from by subst hid; decide +kernel]
  subst hid
  refine wpAny_bind (wpAny_isInstance (b := true) hT (by rw [isSubtype_type]; kernel_rfl) ?_)
  refine wpAny_ite_split (fun hab => absurd hab (by decide)) (fun _ => ?_)
  refine wpAny_ite_split (fun hab => absurd hab (by decide +kernel)) (fun _ => ?_)
  refine wpAny_bind (wpAny_rule ?_)
  refine wpAny_bind (wpAny_of_eq (a := (Value.builtin "reversed.__length_hint__", [Value.ref it])) (by unfold bindSpecial; rw [ty_rt_hint]; rfl) ?_)
  try dsimp only
  refine wpAny_bind (wpAny_attempt (fld_rt hit ht hsz hi fun u k => ?_))
  try dsimp only
  refine wpAny_bind (wpAny_of_eq (a := some (i + 1)) rfl ?_)
  try dsimp only
  have hb : i + 1 ≤ sizeLine := by omega
  rw [sizeLine_eq] at hb
  refine wpAny_ite_split (fun hab => absurd hab (by simp [Builtin.List.listFitsIndex]; omega)) (fun _ => ?_)
  refine wpAny_ite_split (fun hab => absurd hab (by omega)) (fun _ => ?_)
  refine wpAny_ite_split (fun hab => absurd hab (by simp [Builtin.List.listTooLong]; omega)) (fun _ => ?_)
  exact wpAny_pure (h _ _)
theorem walks_rt (hh : A.handled = none) (hne : t ≠ it) (hsz : items.size ≤ sizeLine) :
    Walks prog w A it [it, t] [it] items.size (fun i v => items[items.size - 1 - i]? = some v) (fun i h => i ≤ items.size ∧ IsRt h it t ((items.size : Int) - 1 - (i : Int)) ∧ IsTup h t items) where
  sub := fun b hb => by simp at hb; simp [hb]
  frame := fun _ h h' x hk => ⟨x.1, x.2.1.at fun o e => hk it (by simp) o e, by
    obtain ⟨o, ho, r⟩ := x.2.2
    exact ⟨o, hk t (by simp) o ho, r⟩⟩
  item := fun i s Q E hi x hQ => by
    have e : (items.size : Int) - 1 - (i : Int) = ((items.size - 1 - i : Nat) : Int) := by omega
    have hit := x.2.1
    rw [e] at hit
    have hx : items[items.size - 1 - i]? = some (items[items.size - 1 - i]'(by omega)) := Array.getElem?_eq_getElem (by omega)
    refine next_rt_item hit x.2.2 hx hsz fun h' hit' hs' => ?_
    have e2 : ((items.size - 1 - i : Nat) : Int) - 1 = (items.size : Int) - 1 - ((i + 1 : Nat) : Int) := by omega
    rw [e2] at hit'
    obtain ⟨o, ho, r⟩ := x.2.2
    exact hQ _ h' _ hx ⟨hi, hit', o, (hs'.2 t hne).trans ho, r⟩ fun b o hb eo => (hs'.2 b (fun h => hb (by simp [h]))).trans eo
  done := fun s Q E x hQ => by
    have e : (items.size : Int) - 1 - (items.size : Int) = -1 := by omega
    have hit := x.2.1
    rw [e] at hit
    exact next_rt_end hh hit fun h' he' => hQ h' s.toks fun b o hb eo => he' b o (fun h => hb (by simp [h])) eo
  self := fun _ _ _ _ x hQ => iter_rt x.2.1 hQ
theorem gather_rt {Q : List Value → Shared → Prop} (hh : A.handled = none) (hit : IsRt s.heap it t ((items.size : Int) - 1)) (hl : IsTup s.heap t items) (hne : t ≠ it) (hn : items.size ≤ sizeLine)
    (hQ : ∀ (h' : Heap) (tk : Nat) (acc : Array Value), (∀ b o, b ≠ it → s.heap.get? b = some o → h'.get? b = some o) → ItemsOf (fun i v => items[items.size - 1 - i]? = some v) acc items.size → Q acc.toList { s with heap := h', toks := tk }) :
    wpAny (model prog w) A (collect (.ref it)) Q E s := by
  have W := (walks_rt (prog := prog) (w := w) (A := A.in1) (items := items) hh hne hn).toS
  have hi1 := Heap.lt_size (id hit).choose_spec.1
  have ht1 := hl.lt
  have out : s.heap.objs.size ∉ [it, t] := by
    simp only [List.mem_cons, List.not_mem_nil, or_false, not_or]
    exact ⟨Nat.ne_of_gt hi1, Nat.ne_of_gt ht1⟩
  unfold collect
  refine wpAny_bind (wpAny_runValue (codeAny_builtin F.entry_proto_collect ?_))
  rw [Around.under_plainId F.plain_proto_collect _]
  show wpAny _ A.in1 (newList [] >>= fun l' => again (.builtin "list.__iadd__" ⟨[l', .ref it], []⟩)) _ _ s
  refine wpAny_bind (wpAny_newObj_type ?_)
  refine wpAny_pure ⟨plainId_quiet F.plain_list_iadd _, codeAny_builtin F.entry_list_iadd ?_⟩
  rw [Around.under_plainId F.plain_list_iadd _]
  have hS : (s.heap.push { cls := .type "list", data := .seq ([] : List Value).toArray }).get? s.heap.objs.size = some { cls := .type "list", data := .seq ([] : List Value).toArray } := Heap.get?_push_size _ rfl
  have hit1 := hit.at (h' := s.heap.push { cls := .type "list", data := .seq ([] : List Value).toArray }) fun o e => Heap.get?_push_of_some _ e
  have hl1 := hl.push { cls := .type "list", data := .seq ([] : List Value).toArray }
  have hT : ({ s with heap := s.heap.push { cls := .type "list", data := .seq ([] : List Value).toArray } } : Shared).TypeIs (.ref it) "reversed" := IsRt.typeIs (s := { s with heap := s.heap.push { cls := .type "list", data := .seq ([] : List Value).toArray } }) hit1
  have other : Builtin.List.listSameRef (.ref s.heap.objs.size) (.ref it) = false := by simp [Builtin.List.listSameRef, Nat.ne_of_gt hi1]
  show wpAny _ A.in1 (Builtin.List.listExtendWith (.ref s.heap.objs.size) (.ref it) (.ref s.heap.objs.size)) _ _ _
  unfold Builtin.List.listExtendWith
  refine wpAny_bind (wpAny_typeOf hT ?_)
  rw [if_neg (by rw [other]; decide)]
  refine wpAny_bind (iter_rt (s := { s with heap := s.heap.push { cls := .type "list", data := .seq ([] : List Value).toArray } }) hit1 ?_)
  have e0 : ((items.size : Nat) : Int) - 1 - ((0 : Nat) : Int) = (items.size : Int) - 1 := by omega
  refine wpAny_bind (wpAny_holding (hint_rt hit1 hl1 hn (by omega) (by omega) fun b k => ?_))
  dsimp only
  refine wpAny_ite_split (fun _ => ?_) (fun _ => ?_)
  · refine wpAny_bind (wpAny_rule ?_)
    refine wpAny_bind ?_
    show wpAny _ A.in1 (updateSeq s.heap.objs.size (·.push .none) >>= fun _ => updateSeq s.heap.objs.size (·.pop)) _ _ _
    refine wpAny_bind (wpAny_updateSeq hS rfl ?_)
    have hS2 := Heap.get?_update_self (Obj.mapSeq (·.push Value.none)) hS rfl
    refine wpAny_updateSeq (hz := by seq_fits) hS2 rfl ?_
    have hS3 := Heap.get?_update_self (Obj.mapSeq (·.pop)) hS2 rfl
    have oth : ∀ p o, p ≠ s.heap.objs.size → (s.heap.push { cls := .type "list", data := .seq ([] : List Value).toArray }).get? p = some o →
        (((s.heap.push { cls := .type "list", data := .seq ([] : List Value).toArray }).update s.heap.objs.size (Obj.mapSeq (·.push Value.none))).update s.heap.objs.size (Obj.mapSeq (·.pop))).get? p = some o :=
      fun p o hb e => (Heap.get?_update_other _ _ (Ne.symm hb)).trans ((Heap.get?_update_other _ _ (Ne.symm hb)).trans e)
    refine wpAny_pure ⟨plainId_quiet F.plain_extend_loop _, codeAny_extend_loopS W hn _ out _ items.size 0 _ _ _ rfl (Nat.zero_le _) ⟨Nat.zero_le _, by rw [e0]; exact hit1.at fun o e => oth _ o (Nat.ne_of_lt hi1) e, ?_⟩ hS3 (ItemsOf.nil _) fun s' acc' c' hm hS' hacc => ?_⟩
    · obtain ⟨o, ho, r⟩ := hl1
      exact ⟨o, oth _ o (Nat.ne_of_lt ht1) ho, r⟩
    show wpAny _ A (load s.heap.objs.size >>= _) _ _ s'
    refine wpAny_bind (wpAny_load hS' ?_)
    refine wpAny_pure ?_
    rw [Moved.eq_with hm]
    refine hQ s'.heap s'.toks acc' (fun b o hb e => hm.heap b o (fun hmem => ?_) (oth b o (Nat.ne_of_lt (Heap.lt_size e)) (Heap.get?_push_of_some _ e))) hacc
    rcases List.mem_cons.mp hmem with e' | hmem
    · exact absurd (Heap.lt_size e) (by rw [e']; exact Nat.lt_irrefl _)
    · exact hb (List.mem_singleton.mp hmem)
  · refine wpAny_pure ⟨plainId_quiet F.plain_extend_loop _, codeAny_extend_loopS W hn _ out _ items.size 0 _ _ _ rfl (Nat.zero_le _) ⟨Nat.zero_le _, by rw [e0]; exact hit1, hl1⟩ hS (ItemsOf.nil _) fun s' acc' c' hm hS' hacc => ?_⟩
    show wpAny _ A (load s.heap.objs.size >>= _) _ _ s'
    refine wpAny_bind (wpAny_load hS' ?_)
    refine wpAny_pure ?_
    rw [Moved.eq_with hm]
    refine hQ s'.heap s'.toks acc' (fun b o hb e => hm.heap b o (fun hmem => ?_) (Heap.get?_push_of_some _ e)) hacc
    rcases List.mem_cons.mp hmem with e' | hmem
    · exact absurd (Heap.lt_size e) (by rw [e']; exact Nat.lt_irrefl _)
    · exact hb (List.mem_singleton.mp hmem)
theorem mk_rt {Q₁ : Value → Shared → Prop} (hh : A.handled = none) (hit : IsRt s.heap it t ((items.size : Int) - 1)) (hl : IsTup s.heap t items) (hne : t ≠ it) (hn : items.size ≤ sizeLine)
    (h : ∀ (h' : Heap) (tk : Nat) (acc : Array Value), (∀ b o, b ≠ it → s.heap.get? b = some o → h'.get? b = some o) → ItemsOf (fun i v => items[items.size - 1 - i]? = some v) acc items.size →
      Q₁ (.ref h'.objs.size) { s with heap := h'.push { cls := .type "tuple", data := .seq acc }, toks := tk }) :
    codeAny (model prog w) A (.call (.builtin "tuple.__new__") ⟨[.type "tuple", .ref it], []⟩) (wants Q₁ E) s := by
  refine codeAny_of_tree ?_
  show wpAny _ A.in1 (do checkBuiltinCall "tuple.__new__" ⟨[.type "tuple", .ref it], []⟩; again (.builtin "tuple.__new__" ⟨[.type "tuple", .ref it], []⟩)) _ _ s
  refine wpAny_bind (wpAny_of_eq (F.newCall_tuple_1 _) (wpAny_pure ⟨plainId_quiet F.plain_tuple_new _, codeAny_builtin F.entry_tuple_new ?_⟩))
  rw [Around.under_plainId F.plain_tuple_new _]
  have hsub := sub_tuple_self
  have hinit := init_tuple_lookup
  have hmh := madeHere_tuple
  have hTI : s.TypeIs (.ref it) "reversed" := hit.typeIs
  have hh1 : A.in1.handled = none := hh
  wp_walk using wpAny_typeOf hTI, gather_rt (A := A.in1) hh1 hit hl hne hn
  intro h' tk acc hk hacc
  show wpAny _ _ (Builtin.Tuple.tupleExact acc.toList.toArray >>= fun v => ret v) _ _ _
  unfold Builtin.Tuple.tupleExact
  refine wpAny_bind (wpAny_newObj_type ?_ (by show acc.toList.toArray.size ≤ sizeLine; simp only [Array.toArray_toList]; rw [hacc.1]; exact hn))
  refine wpAny_pure ?_
  rw [show acc.toList.toArray = acc by simp]
  exact h h' tk acc hk hacc
theorem tup_rt {Q : Value → Shared → Prop} (hh : A.handled = none) (hit : IsRt s.heap it t ((items.size : Int) - 1)) (hl : IsTup s.heap t items) (hne : t ≠ it) (hn : items.size ≤ sizeLine)
    (hQ : ∀ (h' : Heap) (tk : Nat) (acc : Array Value), (∀ b o, b ≠ it → s.heap.get? b = some o → h'.get? b = some o) → ItemsOf (fun i v => items[items.size - 1 - i]? = some v) acc items.size →
      Q (.ref h'.objs.size) { s with heap := h'.push { cls := .type "tuple", data := .seq acc }, toks := tk }) :
    wpAny (model prog w) A (call (.type "tuple") [.ref it]) Q E s := by
  refine callType_codes (Q₁ := fun obj s₁ => s₁.TypeIs obj "tuple" ∧ Q obj s₁) F.called_tuple (F.typeCall_tuple_1 _) F.entry_object_init
    (mk_rt (A := A.in1) hh hit hl hne hn fun h' tk acc hk hacc => ⟨⟨_, Heap.get?_push_size _ rfl, rfl⟩, hQ h' tk acc hk hacc⟩) fun obj s₁ h₁ => ?_
  exact ⟨h₁.1, F.args_object_init_2 obj _, object_init_meets F.called_tuple.init.lookup F.called_tuple.made (by decide) prog w A.in1 _ s₁ ⟨h₁.1, rfl, h₁.2⟩⟩
end
/-- tuple(reversed(x)), x a tuple: a new tuple -/
def tTupRevT (K : PySem.W.Frag) (te : TE) : TE := fun σ H Q => te σ H fun v H1 => ∃ (a : Addr) (xs : List V), v = .ref a ∧ SqT K H1 a xs ∧ ∀ q, H1 q = none → Q (.ref q) (upd H1 q (.tup xs.reverse))
theorem pe_tupRevT {X : Cx} {e : Expr} {te : TE} {p p2 pos pos2 : Pos} (hc : X.calm = true) (hg : Gl X "tuple") (hm : X.mg "tuple" = none) (hg2 : Gl X "reversed") (hm2 : X.mg "reversed" = none) (he : PE X e te)
    (hs : starEach [e] X.env = (false, eval e X.env) :: starEach [] X.env := by rfl)
    (hs2 : starEach [.Call (.Name "reversed" p2) [e] [] pos2] X.env = (false, eval (.Call (.Name "reversed" p2) [e] [] pos2) X.env) :: starEach [] X.env := by rfl) :
    PE X (.Call (.Name "tuple" p) [.Call (.Name "reversed" p2) [e] [] pos2] [] pos) (tTupRevT X.K te) := by
  refine ⟨fun pins s σ H Q I h => ?_⟩
  refine Call_ (ld_blt I hg hm boot_tuple (PyProof.Rows.callWith_type1 (args_cons (Call_ (ld_blt I hg2 hm2 PyProof.Rows.boot_reversed (PyProof.Rows.callWith_type1 (args_cons (thn (he.run pins s σ H _ I h) fun u s1 ⟨v, H1, I1, r1, q1⟩ => args_nil ?_) hs) hs rfl))) hs2) hs2 rfl))
  obtain ⟨a, xs, ev, hq, q⟩ := q1
  subst ev
  obtain rfl : u = Value.ref a := r1
  obtain ⟨its, rv, p', hz⟩ := I1.tuple hq
  have hn : its.toArray.size ≤ sizeLine := by rw [List.size_toArray, ← rv.length]; exact hz
  have hl63 := line63
  refine call_reversed_tup p' (fun A E Q k => len_tuple p' (by omega) k) (args_nil ?_)
  have k0 : ∀ b o, s1.heap.get? b = some o → (s1.heap.push (rtObj a ((its.toArray.size : Int) - 1))).get? b = some o := fun b o e => Heap.get?_push_of_some _ e
  have I2 : Inv X pins σ H1 { s1 with heap := s1.heap.push (rtObj a ((its.toArray.size : Int) - 1)), toks := s1.toks + 1 + 1 } := I1.kept (t' := s1.toks + 1 + 1) k0
  obtain ⟨f0, f1, f2, f3, f4, f5⟩ := I1.fpOk (H' := H1) (b := s1.heap.objs.size) (Nat.le_refl _) (I1.hok.fresh (Nat.le_refl _))
  have hne : a ≠ s1.heap.objs.size := Nat.ne_of_lt p'.lt
  refine tup_rt (s := { s1 with heap := s1.heap.push (rtObj a ((its.toArray.size : Int) - 1)), toks := s1.toks + 1 + 1 }) (I1.ok.hd hc) ⟨_, Heap.get?_push_size _ rfl, rfl, rfl⟩ (p'.push _) hne hn fun h' tk acc hk hi => ?_
  have I3 : Inv X pins σ H1 { s1 with heap := h', toks := tk } := I2.turned (t' := tk) (fun b o hb e => hk b o hb e) f0 f1 f3 f4 f5
  refine ⟨.ref h'.objs.size, upd H1 h'.objs.size (.tup xs.reverse), I3.laid (t' := tk) (fun c o e => Heap.get?_push_of_some _ e) (Nat.le_refl _) (show ObjOk X.prog X.w _ _ _ (.tup xs.reverse) from ⟨by rw [List.length_reverse]; exact hz, acc.toList, vals_rev rv hi, ?_⟩), rfl, q _ (I3.hok.fresh (Nat.le_refl _))⟩
  rw [Array.toArray_toList]
  exact IsTup.new _ _
end L2.My
end
section
set_option Elab.async false
set_option linter.all false
set_option maxRecDepth 100000
set_option maxHeartbeats 4000000
/-! Parts that are spoilt. -/
namespace L2.My
open PySem PySem.Spec PyProof.Rows
abbrev sLsp : Stmt := top 39
abbrev sNsp : Stmt := top 40
abbrev sSpo : Stmt := top 41
section
variable {K : PySem.W.Frag} {b g : Addr} {P : Hp → Prop} {σ : St}
theorem gt_odd (e : σ[0]? = some (some (.ref b))) : GT b g P σ (tCall spOdd [] E0 (tCons (tVar 0) tNil)) := fun H Q hB _ q => ⟨_, e, b, g, rfl, hB, q⟩
theorem gt_drawI (e : σ[0]? = some (some (.ref b))) {te : TE} {m : Int} (h0 : 0 < m) (h1 : m ≤ 100000) (ht : ∀ H (Q : VK), P H → Q (.int m) H → te σ H Q) {Q : VK} {H : Hp} (hB : BoxAt H b g) (p : P H) (q : ∀ H' (r : Nat), BL [b] H H' → BoxAt H' b g → (r : Int) < m → Q (.int (r : Nat)) H') : tCall spDraw [] E0 (tCons (tVar 0) (tCons te tNil)) σ H Q :=
  ⟨_, e, ht H _ p ⟨b, g, m, rfl, hB, h0, Nat.lt_of_le_of_lt (show m.natAbs ≤ 100000 by omega) (by decide), fun H' r bl hB' r0 r1 => by
    obtain ⟨j, rfl⟩ : ∃ j : Nat, r = j := ⟨r.toNat, by omega⟩
    exact q H' j bl hB' r1⟩⟩
theorem small_max {r : Nat} {m : Int} (h : (r : Int) < m) (h1 : m ≤ 100000) : (r : Int) ≤ maxI := by
  have e : (100000 : Int) ≤ maxI := by decide
  omega
theorem gt_draw (e : σ[0]? = some (some (.ref b))) {te : TE} {m : Int} (h0 : 0 < m) (h1 : m ≤ 100000) (ht : ∀ H (Q : VK), P H → Q (.int m) H → te σ H Q) : GT b g P σ (tCall spDraw [] E0 (tCons (tVar 0) (tCons te tNil))) := fun H Q hB p q =>
  gt_drawI e h0 h1 ht hB p fun H' r bl hB' hr => q H' _ bl hB' (.int _ (small_max hr h1))
theorem gt_set {i j n : Nat} {te : TE} {la : Addr} {xs : List V} (ei : σ[i]? = some (some (.ref la))) (ej : σ[j]? = some (some (.int (n : Nat)))) (st : Stb b P) (h : ∀ H, P H → H la = some (.tup xs) ∧ ∀ v ∈ xs, Thg b H v) (hn : n < xs.length) (hl : xs.length ≤ 5000) (ht : GT b g P σ te) : GT b g P σ (tCall spSet [] E0 (tCons (tVar i) (tCons (tVar j) (tCons te tNil)))) := fun H Q hB p q =>
  ⟨_, ei, _, ej, ht H _ hB p fun H1 v bl hB1 tv => ⟨la, xs, n, v, rfl, (h H1 (st _ _ p bl)).1, hn, hl, fun H2 c s hc => q H2 _ (bl.trans (.same s)) (hB1.same s) (.tup hc ((hB1.same s).nt.ne hc) (by rw [List.length_set]; exact hl) fun x hx => by
    rcases List.mem_or_eq_of_mem_set hx with z | z
    · exact ((h H1 (st _ _ p bl)).2 x z).same s
    · rw [z]; exact tv.same s)⟩⟩
theorem gt_pick {n : Nat} {te : TE} (e : σ[0]? = some (some (.ref b))) (h : GL b g (fun G => P G) σ n te) (h0 : 0 < n) (hn : n ≤ 1000) (m : Int) (hm : m = (n : Nat)) : GT b g P σ (tOp (rIxL K) te (tCall spDraw [] E0 (tCons (tVar 0) (tCons (tC (.int m)) tNil)))) := fun H Q hB p q =>
  h H _ hB p fun H1 l vs bl hB1 nl hl tv hlen => gt_drawI (P := fun _ => True) e (by omega) (by omega) (fun _ _ _ q => q) hB1 trivial fun H2 r bl2 hB2 hr => by
    have hj : r < vs.length := by omega
    have e1 : vs[r]? = some vs[r] := List.getElem?_eq_getElem hj
    exact ⟨l, vs, _, vs[r], rfl, rfl, .of (bl2 _ _ (by simpa using hB.nb nl) hl), atI_nat e1, q H2 _ (bl.trans bl2) hB2 ((tv _ (List.getElem_mem hj)).bl bl2)⟩
theorem gt_rev {n : Nat} {te : TE} (h : GU b g P σ n te) (hn : n ≤ 5000) : GT b g P σ (tTupRevT K te) := fun H Q hB p q =>
  h H _ hB p fun H1 a vs bl hB1 ha tv hl => ⟨a, vs, rfl, .of ha, fun t nt => by
    have s := same_upd (o := HO.tup vs.reverse) nt
    exact q _ _ (bl.trans (.same s)) (hB1.same s) (.tup upd_same (hB1.nb nt) (by rw [List.length_reverse]; omega) fun v hv => (tv v (List.mem_reverse.mp hv)).same s)⟩
theorem gt_ixt {i : Nat} {p0 : Addr} {xs : List V} {j : Int} {v : V} (e : σ[i]? = some (some (.ref p0))) (h : ∀ H, P H → H p0 = some (.tup xs) ∧ Thg b H v) (hj : atI xs j = some v) : GT b g P σ (tOp (rIxT K) (tVar i) (tC (.int j))) := fun H Q hB p q =>
  ⟨_, e, p0, xs, j, v, rfl, rfl, .of (h H p).1, hj, q H _ .refl hB (h H p).2⟩
theorem gt_ixtV {i k : Nat} {p0 : Addr} {xs : List V} {j : Int} {v : V} (e : σ[i]? = some (some (.ref p0))) (ek : σ[k]? = some (some (.int j))) (h : ∀ H, P H → H p0 = some (.tup xs) ∧ Thg b H v) (hj : atI xs j = some v) : GT b g P σ (tOp (rIxT K) (tVar i) (tVar k)) := fun H Q hB p q =>
  ⟨_, e, _, ek, p0, xs, j, v, rfl, rfl, .of (h H p).1, hj, q H _ .refl hB (h H p).2⟩
end
theorem to_one {σ : St} (n : Int) (H : Hp) (Q : Option Int → Hp → Prop) (q : Q (some n) H) : tPart (tC (.int n)) σ H Q := ⟨n, rfl, q⟩
def spLsp : Sp := fun vs H Q _ => ∃ (b g la : Addr) (xs : List V) (ls : List Lf), vs = [.ref b, .ref la] ∧ BoxAt H b g ∧ H la = some (.tup xs) ∧ Paired (LfAt H) xs ls ∧ (∀ l ∈ ls, GLf l) ∧ 1 ≤ ls.length ∧ ls.length ≤ 256 ∧ ∀ H' v, BL [b] H H' → BoxAt H' b g → Thg b H' v → Q v H'
def spNsp : Sp := fun vs H Q _ => ∃ (b g la na : Addr) (h : Nat) (xs : List V) (ls : List Lf) (ns : List Nd), vs = [.ref b, .int (h : Nat), .ref la, .ref na] ∧ BoxAt H b g ∧ H la = some (.tup xs) ∧ xs.length = ls.length ∧ 1 ≤ ls.length ∧ NdsAt H na ns ∧ DrT h ls ns ∧ ∀ H' v, BL [b] H H' → BoxAt H' b g → Thg b H' v → Q v H'
section
variable {P : Program} {w : World} {K : PySem.W.Frag} {mg : Str → Option Value} {base : Heap}
abbrev nLsp : List Str := ["box", "leaves", "at", "kind", "other"]
theorem scLsp : FnScope nLsp ["box", "leaves"] (defScope sLsp) := ⟨rfl, rfl, rfl, by decide +kernel, rfl, by decide +kernel, by decide +kernel⟩
theorem ok_lsp {f : Addr} {fd : FuncData} {k : Nat} (F : Fun K "_law_leaf_spoilt" "_law_leaf_spoilt" sLsp f fd) (T : Tx mg) (cD : Cal P w K mg base (k + 4) "_law_draw" ["box", "menu"] spDraw) (cS : Cal P w K mg base (k + 4) "_law_set" ["things", "at", "thing"] spSet) (cO : Cal P w K mg base (k + 4) "_law_odd" ["box"] spOdd) : FnOk P w K mg base CX0 (k + 5) f fd ["box", "leaves"] spLsp := by
  refine F.ok scLsp (fun vs H Q E h => ?_) (fun cdv A outer s H vs Q E hr h => ?_)
  · obtain ⟨b, g, la, xs, ls, rfl, _⟩ := h
    rfl
  · obtain ⟨b, g, la, xs, ls, rfl, hB, hla, hp, hg, l1, l2, q⟩ := h
    refine ⟨_, (pss_cons (ps_set (i := 2) scLsp.nd rfl (Or.inl rfl) (pe_c cD hr (by omega) (by rfl) (pa_cons (pv 0) (pa_cons (pe_callB call_len_seq (by rfl) T.len_ PySem.boot_len (pa_cons (pv 1) pa_nil)) pa_nil)))) (pss_cons (ps_set (i := 3) scLsp.nd rfl (Or.inl rfl) (pe_c cD hr (by omega) (by rfl) (pa_cons (pv 0) (pa_cons pe_int pa_nil)))) (pss_cons (ps_set (i := 4) scLsp.nd rfl (Or.inl rfl) (pe_ix ix_tup (pv 1) (pe_c cD hr (by omega) (by rfl) (pa_cons (pv 0) (pa_cons (pe_callB call_len_seq (by rfl) T.len_ PySem.boot_len (pa_cons (pv 1) pa_nil)) pa_nil))) (fun _ _ => rfl))) (pss_cons (ps_if (pt_cmpR op_eq (pv 3) pe_int (nomark _)) (pss_one (ps_ret (pe_op op_catA (pv 1) (pe_tup (pa_cons pe_non pa_nil))))) pss_nil) (pss_cons (ps_if (pt_cmpR op_eq (pv 3) pe_int (nomark _)) (pss_one (ps_ret (pe_slice sl_tupA (pv 1) (po_some pe_int) po_none))) pss_nil) (pss_cons (ps_if (pt_cmpR op_eq (pv 3) pe_int (nomark _)) (pss_one (ps_ret (pe_c cS hr (by omega) (by rfl) (pa_cons (pv 1) (pa_cons (pv 2) (pa_cons pe_non pa_nil)))))) pss_nil) (pss_cons (ps_if (pt_cmpR op_eq (pv 3) pe_int (nomark _)) (pss_one (ps_ret (pe_c cS hr (by omega) (by rfl) (pa_cons (pv 1) (pa_cons (pv 2) (pa_cons (pe_ifExp (pt_cmpR op_notN (pv 4) pe_non (nomark _)) (pe_tup (pa_cons (pe_ix ix_tup (pv 4) pe_int (fun _ _ => rfl)) (pa_cons pe_int pa_nil))) (pe_tup (pa_cons pe_str (pa_cons pe_int pa_nil)))) pa_nil)))))) pss_nil) (pss_cons (ps_if (pt_cmpR op_eq (pv 3) pe_int (nomark _)) (pss_one (ps_ret (pe_c cS hr (by omega) (by rfl) (pa_cons (pv 1) (pa_cons (pv 2) (pa_cons (pe_tup (pa_cons (pe_c cO hr (by omega) (by rfl) (pa_cons (pv 0) pa_nil)) (pa_cons pe_int pa_nil))) pa_nil)))))) pss_nil) (pss_cons (ps_if (pt_cmpR op_eq (pv 3) pe_int (nomark _)) (pss_one (ps_ret (pe_c cS hr (by omega) (by rfl) (pa_cons (pv 1) (pa_cons (pv 2) (pa_cons (pe_tup (pa_cons pe_str (pa_cons (pe_c cO hr (by omega) (by rfl) (pa_cons (pv 0) pa_nil)) pa_nil))) pa_nil)))))) pss_nil) (pss_one (ps_ret (pe_ifExp (pt_cmpR op_eq (pv 3) pe_int (nomark _)) (pe_c cS hr (by omega) (by rfl) (pa_cons (pv 1) (pa_cons (pv 2) (pa_cons (pe_c cO hr (by omega) (by rfl) (pa_cons (pv 0) pa_nil)) pa_nil)))) (pe_callTy call_list_of (by rfl) T.list_ (by decide +kernel) (pa_cons (pv 1) pa_nil)))))))))))))), ?_⟩
    have hxl := Paired.len hp
    have th : ∀ v ∈ xs, Thg b H v := fun v hv => by
      obtain ⟨i, hi⟩ := List.getElem?_of_mem hv
      obtain ⟨l, e1, e2⟩ := Paired.at' hp hi
      exact thg_lf hB.nt e2 (hg l (List.mem_of_getElem? e1))
    have nlb := hB.nt.ne hla
    refine ⟨_, rfl, _, rfl, la, xs, rfl, .inr (.of hla), b, g, _, rfl, hB, by omega, Nat.lt_of_le_of_lt (show ((xs.length : Nat) : Int).natAbs ≤ 256 by omega) (by decide), fun H1 r1 bl1 hB1 r10 r11 => ?_⟩
    obtain ⟨n, rfl⟩ : ∃ n : Nat, r1 = n := ⟨r1.toNat, by omega⟩
    refine ⟨_, rfl, b, g, 8, rfl, hB1, by decide, by decide, fun H2 kd bl2 hB2 _ _ => ?_⟩
    have bl12 := bl1.trans bl2
    have hla2 := bl12 _ _ (by simpa using nlb) hla
    refine ⟨_, rfl, _, rfl, _, rfl, la, xs, rfl, .inr (.of hla2), b, g, _, rfl, hB2, by omega, Nat.lt_of_le_of_lt (show ((xs.length : Nat) : Int).natAbs ≤ 256 by omega) (by decide), fun H3 r3 bl3 hB3 r30 r31 => ?_⟩
    obtain ⟨m, rfl⟩ : ∃ m : Nat, r3 = m := ⟨r3.toNat, by omega⟩
    have hm : m < xs.length := by omega
    have hxm : xs[m]? = some xs[m] := List.getElem?_eq_getElem hm
    have hla3 := bl3 _ _ (by simpa using nlb) hla2
    have bl := bl12.trans bl3
    refine ⟨la, xs, _, xs[m], rfl, rfl, .of hla3, atI_nat hxm, ?_⟩
    have st := stb_bl b H3
    have th3 : ∀ v ∈ xs, Thg b H3 v := fun v hv => (th v hv).bl bl
    have hP : ∀ G, BL [b] H3 G → G la = some (.tup xs) ∧ ∀ v ∈ xs, Thg b G v := fun G s => ⟨s _ _ (by simpa using nlb) hla3, fun v hv => (th3 v hv).bl s⟩
    have fin : ∀ {te : TE}, GT b g (fun G => BL [b] H3 G) [some (.ref b), some (.ref la), some (.int (n : Nat)), some (.int kd), some xs[m]] te → te [some (.ref b), some (.ref la), some (.int (n : Nat)), some (.int kd), some xs[m]] H3 Q := fun h => h H3 Q hB3 .refl fun G v s hG tv => q G v (bl.trans s) hG tv
    have u1v : GU b g (fun G => BL [b] H3 G) [some (.ref b), some (.ref la), some (.int (n : Nat)), some (.int kd), some xs[m]] 256 (tVar 1) := gu_var rfl hP (by omega)
    have i5 : (5 : Int) ≤ maxI := by decide
    have i0 : (0 : Int) ≤ maxI := by decide
    refine ⟨_, rfl, rfl, _, rfl, ite2 (fun _ => fin (gu_gt (gu_cat st u1v (gu_tup1 gt_non) (by decide)) (by decide))) (fun _ => ?_)⟩
    refine ⟨_, rfl, rfl, _, rfl, ite2 (fun _ => fin (gu_gt (gu_slc u1v (to_one 1) to_no) (by decide))) (fun _ => ?_)⟩
    refine ⟨_, rfl, rfl, _, rfl, ite2 (fun _ => fin (gt_set rfl rfl st hP (by omega) (by omega) gt_non)) (fun _ => ?_)⟩
    refine ⟨_, rfl, rfl, _, rfl, ite2 (fun _ => fin (gt_set rfl rfl st hP (by omega) (by omega) ?_)) (fun _ => ?_)⟩
    · intro G Q' hBG hPG q'
      refine ⟨_, rfl, rfl, _, rfl, ?_⟩
      rw [nonN]
      obtain ⟨l, e1, e2⟩ := Paired.at' hp hxm
      rw [lf_non e2]
      cases l with
      | none => exact iteF (gt_tup (by decide) (ga_cons st (gt_str "z" (by decide +kernel)) (ga_cons st (gt_int 0 i0) ga_nil)) G Q' hBG hPG q')
      | some p =>
        obtain ⟨a, ea, ha⟩ := e2
        have ha3 := bl _ _ (by simpa using hB.nt.ne ha) ha
        have hz := (hg _ (List.mem_of_getElem? e1) p.1 p.2 rfl).1
        exact iteT (gt_tup (by decide) (ga_cons st (gt_ixt (v := .str p.1) (p0 := a) (xs := [.str p.1, .int p.2]) (congrArg (fun x => some (some x)) ea) (fun G s => ⟨s _ _ (by simpa using hB.nt.ne ha) ha3, .str _ (Nat.le_trans (word_low hz).1 (by decide))⟩) (atI_nat (j := 0) rfl)) (ga_cons st (gt_int 5 i5) ga_nil)) G Q' hBG hPG q')
    refine ⟨_, rfl, rfl, _, rfl, ite2 (fun _ => fin (gt_set rfl rfl st hP (by omega) (by omega) (gt_tup (by decide) (ga_cons st (gt_odd rfl) (ga_cons st (gt_int 5 i5) ga_nil))))) (fun _ => ?_)⟩
    refine ⟨_, rfl, rfl, _, rfl, ite2 (fun _ => fin (gt_set rfl rfl st hP (by omega) (by omega) (gt_tup (by decide) (ga_cons st (gt_str "q" (by decide +kernel)) (ga_cons st (gt_odd rfl) ga_nil))))) (fun _ => ?_)⟩
    refine ⟨_, rfl, rfl, _, rfl, ite2 (fun _ => fin (gt_set rfl rfl st hP (by omega) (by omega) (gt_odd rfl))) (fun _ => fin (gt_listof u1v))⟩
abbrev nNsp : List Str := ["box", "height", "leaves", "nodes", "kind", "node", "at", "lock", "aside"]
theorem scNsp : FnScope nNsp ["box", "height", "leaves", "nodes"] (defScope sNsp) := ⟨rfl, rfl, rfl, by decide +kernel, rfl, by decide +kernel, by decide +kernel⟩
theorem ok_nsp {f : Addr} {fd : FuncData} {k : Nat} (F : Fun K "_law_node_spoilt" "_law_node_spoilt" sNsp f fd) (T : Tx mg) (cD : Cal P w K mg base (k + 4) "_law_draw" ["box", "menu"] spDraw) (cS : Cal P w K mg base (k + 4) "_law_set" ["things", "at", "thing"] spSet) (cO : Cal P w K mg base (k + 4) "_law_odd" ["box"] spOdd) : FnOk P w K mg base CX0 (k + 5) f fd ["box", "height", "leaves", "nodes"] spNsp := by
  refine F.ok scNsp (fun vs H Q E h => ?_) (fun cdv A outer s H vs Q E hr h => ?_)
  · obtain ⟨b, g, la, na, h, xs, ls, ns, rfl, _⟩ := h
    rfl
  · obtain ⟨b, g, la, na, h, xs, ls, ns, rfl, hB, hla, hxl, l1, hN, d, q⟩ := h
    refine ⟨_, (pss_cons (ps_set (i := 4) scNsp.nd rfl (Or.inl rfl) (pe_c cD hr (by omega) (by rfl) (pa_cons (pv 0) (pa_cons pe_int pa_nil)))) (pss_cons (ps_if (pt_or (pt_cmpR op_eq (pe_callB call_len_seq (by rfl) T.len_ PySem.boot_len (pa_cons (pv 3) pa_nil)) pe_int (nomark _)) (pw_or1 (pt_cmpR op_eq (pv 4) pe_int (nomark _)))) (pss_cons (ps_set (i := 5) scNsp.nd rfl (Or.inl rfl) (pe_tup (pa_cons (pe_c cD hr (by omega) (by rfl) (pa_cons (pv 0) (pa_cons (pe_op op_add (pv 1) pe_int) pa_nil))) (pa_cons (pe_c cD hr (by omega) (by rfl) (pa_cons (pv 0) (pa_cons (pe_callB call_len_seq (by rfl) T.len_ PySem.boot_len (pa_cons (pv 2) pa_nil)) pa_nil))) pa_nil)))) (pss_one (ps_ret (pe_op op_catA (pv 3) (pe_tup (pa_cons (pe_tup (pa_cons (pv 5) (pa_cons pe_int (pa_cons (pe_tup pa_nil) pa_nil)))) pa_nil)))))) pss_nil) (pss_cons (ps_set (i := 6) scNsp.nd rfl (Or.inl rfl) (pe_c cD hr (by omega) (by rfl) (pa_cons (pv 0) (pa_cons (pe_callB call_len_seq (by rfl) T.len_ PySem.boot_len (pa_cons (pv 3) pa_nil)) pa_nil)))) (pss_cons (ps_asg (pe_ix ix_tup (pv 3) (pv 6) (fun _ _ => rfl)) (pg_tup rfl (pgs_cons (pg_name (i := 5) scNsp.nd rfl (Or.inl rfl)) (pgs_cons (pg_name (i := 7) scNsp.nd rfl (Or.inl rfl)) (pgs_cons (pg_name (i := 8) scNsp.nd rfl (Or.inl rfl)) pgs_nil))))) (pss_cons (ps_if (pt_cmpR op_eq (pv 4) pe_int (nomark _)) (pss_one (ps_ret (pe_op op_catA (pv 3) (pe_tup (pa_cons (pe_ix ix_tup (pv 3) (pv 6) (fun _ _ => rfl)) pa_nil))))) pss_nil) (pss_cons (ps_if (pt_cmpR op_eq (pv 4) pe_int (nomark _)) (pss_one (ps_ret (pe_tupRevT rfl (by rfl) T.tuple_ (by rfl) T.rev_ (pv 3)))) pss_nil) (pss_cons (ps_if (pt_cmpR op_eq (pv 4) pe_int (nomark _)) (pss_one (ps_ret (pe_c cS hr (by omega) (by rfl) (pa_cons (pv 3) (pa_cons (pv 6) (pa_cons (pe_tup (pa_cons (pv 5) (pa_cons (pe_c cO hr (by omega) (by rfl) (pa_cons (pv 0) pa_nil)) (pa_cons (pv 8) pa_nil)))) pa_nil)))))) pss_nil) (pss_cons (ps_if (pt_cmpR op_eq (pv 4) pe_int (nomark _)) (pss_one (ps_ret (pe_c cS hr (by omega) (by rfl) (pa_cons (pv 3) (pa_cons (pv 6) (pa_cons (pe_tup (pa_cons (pe_c cO hr (by omega) (by rfl) (pa_cons (pv 0) pa_nil)) (pa_cons (pv 7) (pa_cons (pv 8) pa_nil)))) pa_nil)))))) pss_nil) (pss_cons (ps_if (pt_cmpR op_eq (pv 4) pe_int (nomark _)) (pss_one (ps_ret (pe_c cS hr (by omega) (by rfl) (pa_cons (pv 3) (pa_cons (pv 6) (pa_cons (pe_tup (pa_cons (pv 5) (pa_cons (pv 7) (pa_cons (pe_op op_catA (pv 8) (pe_tup (pa_cons (pe_c cD hr (by omega) (by rfl) (pa_cons (pv 0) (pa_cons (pe_callB call_len_seq (by rfl) T.len_ PySem.boot_len (pa_cons (pv 2) pa_nil)) pa_nil))) pa_nil))) pa_nil)))) pa_nil)))))) pss_nil) (pss_cons (ps_if (pt_cmpR op_eq (pv 4) pe_int (nomark _)) (pss_one (ps_ret (pe_c cS hr (by omega) (by rfl) (pa_cons (pv 3) (pa_cons (pv 6) (pa_cons (pe_tup (pa_cons (pv 5) (pa_cons (pv 7) (pa_cons (pe_ix ix_list (pe_lst (pa_cons (pe_c cO hr (by omega) (by rfl) (pa_cons (pv 0) pa_nil)) (pa_cons (pe_tupRevT rfl (by rfl) T.tuple_ (by rfl) T.rev_ (pv 8)) (pa_cons (pe_callTy call_list_of (by rfl) T.list_ (by decide +kernel) (pa_cons (pv 8) pa_nil)) (pa_cons (pe_op op_catA (pv 8) (pe_tup (pa_cons pe_bl pa_nil))) pa_nil))))) (pe_c cD hr (by omega) (by rfl) (pa_cons (pv 0) (pa_cons pe_int pa_nil))) (fun _ _ => rfl)) pa_nil)))) pa_nil)))))) pss_nil) (pss_cons (ps_if (pt_cmpR op_eq (pv 4) pe_int (nomark _)) (pss_one (ps_ret (pe_c cS hr (by omega) (by rfl) (pa_cons (pv 3) (pa_cons (pv 6) (pa_cons (pe_c cO hr (by omega) (by rfl) (pa_cons (pv 0) pa_nil)) pa_nil)))))) pss_nil) (pss_one (ps_ret (pe_ix ix_list (pe_lst (pa_cons (pe_callTy call_list_of (by rfl) T.list_ (by decide +kernel) (pa_cons (pv 3) pa_nil)) (pa_cons (pe_slice sl_tupA (pv 3) po_none (po_some (pv 6))) (pa_cons pe_non pa_nil)))) (pe_c cD hr (by omega) (by rfl) (pa_cons (pv 0) (pa_cons pe_int pa_nil))) (fun _ _ => rfl))))))))))))))), ?_⟩
    obtain ⟨ws, hna, hp⟩ := hN
    have hwl := Paired.len hp
    have hnl := d.nl
    have h8 := d.h8
    have l256 := d.l256
    have th : ∀ v ∈ ws, Thg b H v := fun v hv => by
      obtain ⟨i, hi⟩ := List.getElem?_of_mem hv
      obtain ⟨l, e1, e2⟩ := Paired.at' hp hi
      exact thg_nd hB.nt e2 (d.gn l (List.mem_of_getElem? e1)) h8 l256
    have nnb := hB.nt.ne hna
    have nlb := hB.nt.ne hla
    refine ⟨_, rfl, b, g, 9, rfl, hB, by decide, by decide, fun H1 kd bl1 hB1 _ _ => ?_⟩
    have hna1 := bl1 _ _ (by simpa using nnb) hna
    have hla1 := bl1 _ _ (by simpa using nlb) hla
    have i3 : (3 : Int) ≤ maxI := by decide
    have st1 := stb_bl b H1
    have hP1 : ∀ G, BL [b] H1 G → G na = some (.tup ws) ∧ ∀ v ∈ ws, Thg b G v := fun G s => ⟨s _ _ (by simpa using nnb) hna1, fun v hv => ((th v hv).bl bl1).bl s⟩
    have early : ∀ σ : St, (∃ y5 y6 y7 y8, σ = [some (.ref b), some (.int (h : Nat)), some (.ref la), some (.ref na), some (.int kd), y5, y6, y7, y8]) → GT b g (fun G => BL [b] H1 G) σ (tTup (tCons (tCall spDraw [] E0 (tCons (tVar 0) (tCons (tOp (rI0 fun i j => .int (i + j)) (tVar 1) (tC (.int 2))) tNil))) (tCons (tCall spDraw [] E0 (tCons (tVar 0) (tCons (tCB (rLenS K) (tCons (tVar 2) tNil)) tNil))) tNil))) := by
      rintro σ ⟨y5, y6, y7, y8, rfl⟩
      refine gt_tup (by decide) (ga_cons st1 (gt_draw rfl (m := (h : Nat) + 2) (by omega) (by omega) fun G Q p q => ⟨_, rfl, _, _, rfl, rfl, q⟩) (ga_cons st1 (gt_draw rfl (m := (xs.length : Nat)) (by omega) (by omega) fun G Q p q => ⟨_, rfl, la, xs, rfl, .inr (.of (p _ _ (by simpa using nlb) hla1)), q⟩) ga_nil))
    have eb : ∀ {D : Ends} {σ : St}, (∃ y5 y6 y7 y8, σ = [some (.ref b), some (.int (h : Nat)), some (.ref la), some (.ref na), some (.int kd), y5, y6, y7, y8]) → (∀ v G, Q v G → D.rt v G) → tSeq (tAsg (tTup (tCons (tCall spDraw [] E0 (tCons (tVar 0) (tCons (tOp (rI0 fun i j => .int (i + j)) (tVar 1) (tC (.int 2))) tNil))) (tCons (tCall spDraw [] E0 (tCons (tVar 0) (tCons (tCB (rLenS K) (tCons (tVar 2) tNil)) tNil))) tNil))) (gName 5)) (tRet (tOp (rCatA K) (tVar 3) (tTup (tCons (tTup (tCons (tVar 5) (tCons (tC (.int 3)) (tCons (tTup tNil) tNil)))) tNil)))) D σ H1 := by
      intro D σ hσ hD
      unfold tSeq tAsg
      refine early σ hσ H1 _ hB1 .refl fun G v s hG tv => ?_
      obtain ⟨y5, y6, y7, y8, rfl⟩ := hσ
      exact gu_cat (K := K) (b := b) (g := g) (P := fun G' => BL [b] G G') (n := 1152) (m := 1) (stb_bl b G) (gu_var rfl (fun G' s' => hP1 G' (s.trans s')) (by omega)) (gu_tup1 (gt_tup (by decide) (ga_cons (stb_bl b G) (gt_var rfl fun G' s' => tv.bl s') (ga_cons (stb_bl b G) (gt_int 3 i3) (ga_cons (stb_bl b G) (gt_tup (by decide) ga_nil) ga_nil))))) (by decide) G _ hG .refl fun G2 a2 vs2 s2 hG2 ha2 tv2 hl2 => hD _ _ (q G2 _ (bl1.trans (s.trans s2)) hG2 (.tup ha2 (hG2.nt.ne ha2) (by omega) tv2))
    refine ⟨_, rfl, na, ws, rfl, .inr (.of hna1), rfl, _, rfl, ?_⟩
    cases hw : decide (V.int (ws.length : Nat) = V.int 0) with
    | true => exact iteT (eb ⟨_, _, _, _, rfl⟩ fun _ _ h => h)
    | false =>
    have hw0 : ws.length ≠ 0 := fun e => by rw [e] at hw; exact absurd hw (by decide)
    refine iteF ⟨_, rfl, rfl, _, rfl, ite2 (fun _ => eb ⟨_, _, _, _, rfl⟩ fun _ _ h => h) (fun _ => ?_)⟩
    refine ⟨_, rfl, _, rfl, na, ws, rfl, .inr (.of hna1), b, g, _, rfl, hB1, by omega, Nat.lt_of_le_of_lt (show ((ws.length : Nat) : Int).natAbs ≤ 1152 by omega) (by decide), fun H2 r2 bl2 hB2 r20 r21 => ?_⟩
    obtain ⟨n, rfl⟩ : ∃ n : Nat, r2 = n := ⟨r2.toNat, by omega⟩
    have hn : n < ws.length := by omega
    have hwn : ws[n]? = some ws[n] := List.getElem?_eq_getElem hn
    have bl := bl1.trans bl2
    have hna2 := bl _ _ (by simpa using nnb) hna
    have hla2 := bl _ _ (by simpa using nlb) hla
    obtain ⟨nd, e1, a, nda, ca, ea, h1, h2, h3⟩ := Paired.at' hp hwn
    have ro := d.gn nd (List.mem_of_getElem? e1)
    have h12 := hB.tk bl _ _ h1
    have h22 := hB.tk bl _ _ h2
    have h32 := hB.tk bl _ _ h3
    refine ⟨_, rfl, _, rfl, na, ws, _, ws[n], rfl, rfl, .of hna2, atI_nat hwn, a, _, ea, .of h12, rfl, _, _, rfl, _, _, rfl, _, _, rfl, rfl, ?_⟩
    have st := stb_bl b H2
    have hP : ∀ G, BL [b] H2 G → G na = some (.tup ws) ∧ ∀ v ∈ ws, Thg b G v := fun G s => ⟨s _ _ (by simpa using nnb) hna2, fun v hv => ((th v hv).bl bl).bl s⟩
    have tnd : Thg b H2 (.ref nda) := thg_pair hB2.nt h22 (by have := ro.lh; omega) (by have := ro.b128 h8; omega)
    have tlk : Thg b H2 (.int nd.2.1) := .int _ ro.k1
    have jb : ∀ j ∈ nd.2.2, j < 256 := fun j hj => by
      obtain ⟨_, z, hz⟩ := ro.as j hj
      have := (List.getElem?_eq_some_iff.mp hz).1
      omega
    have tca : ∀ v ∈ nN nd.2.2, Thg b H2 v := fun v hv => by
      obtain ⟨j, hj, rfl⟩ := List.mem_map.mp hv
      exact .int _ (small_max (m := 256) (by have := jb j hj; omega) (by decide))
    have tcA : Thg b H2 (.ref ca) := thg_nats hB2.nt h32 (Nat.le_trans ro.le (by decide)) jb
    show tSeq _ _ _ ([some (V.ref b), some (V.int (h : Nat)), some (V.ref la), some (V.ref na), some (V.int kd), some (V.ref nda), some (V.int (n : Nat)), some (V.int nd.2.1), some (V.ref ca)] : St) H2
    generalize hσ : ([some (V.ref b), some (V.int (h : Nat)), some (V.ref la), some (V.ref na), some (V.int kd), some (V.ref nda), some (V.int (n : Nat)), some (V.int nd.2.1), some (V.ref ca)] : St) = σ
    have hwa : ws[n] = .ref a := ea
    have s0 : σ[0]? = some (some (.ref b)) := by rw [← hσ]; rfl
    have s1 : σ[1]? = some (some (.int (h : Nat))) := by rw [← hσ]; rfl
    have s2 : σ[2]? = some (some (.ref la)) := by rw [← hσ]; rfl
    have s3 : σ[3]? = some (some (.ref na)) := by rw [← hσ]; rfl
    have s4 : σ[4]? = some (some (.int kd)) := by rw [← hσ]; rfl
    have s6 : σ[6]? = some (some (.int (n : Nat))) := by rw [← hσ]; rfl
    have v5 : GT b g (fun G => BL [b] H2 G) σ (tVar 5) := gt_var (v := .ref nda) (by rw [← hσ]; rfl) fun G s => tnd.bl s
    have v7 : GT b g (fun G => BL [b] H2 G) σ (tVar 7) := gt_var (v := .int nd.2.1) (by rw [← hσ]; rfl) fun G s => tlk.bl s
    have v8 : GT b g (fun G => BL [b] H2 G) σ (tVar 8) := gt_var (v := .ref ca) (by rw [← hσ]; rfl) fun G s => tcA.bl s
    have u8 : GU b g (fun G => BL [b] H2 G) σ 256 (tVar 8) := gu_var (a := ca) (vs := nN nd.2.2) (by rw [← hσ]; rfl) (fun G s => ⟨s _ _ (by simpa using hB2.nt.ne h32) h32, fun v hv => (tca v hv).bl s⟩) (by rw [nN_len]; exact ro.le)
    have u3 : GU b g (fun G => BL [b] H2 G) σ 1152 (tVar 3) := gu_var s3 hP (by omega)
    have fin : ∀ {te : TE}, GT b g (fun G => BL [b] H2 G) σ te → te σ H2 Q := fun h => h H2 Q hB2 .refl fun G v s hG tv => q G v (bl.trans s) hG tv
    have set : ∀ {te : TE}, GT b g (fun G => BL [b] H2 G) σ te → GT b g (fun G => BL [b] H2 G) σ (tCall spSet [] E0 (tCons (tVar 3) (tCons (tVar 6) (tCons te tNil)))) := fun h => gt_set s3 s6 st hP hn (by omega) h
    have dl : GT b g (fun G => BL [b] H2 G) σ (tCall spDraw [] E0 (tCons (tVar 0) (tCons (tCB (rLenS K) (tCons (tVar 2) tNil)) tNil))) := gt_draw s0 (m := (xs.length : Nat)) (by omega) (by omega) fun G Q p q => ⟨_, s2, la, xs, rfl, .inr (.of (p _ _ (by simpa using nlb) hla2)), q⟩
    have wn : GT b g (fun G => BL [b] H2 G) σ (tOp (rIxT K) (tVar 3) (tVar 6)) := gt_ixtV s3 s6 (fun G s => ⟨(hP G s).1, (hP G s).2 _ (List.getElem_mem hn)⟩) (atI_nat hwn)
    refine ⟨_, s4, rfl, _, rfl, ite2 (fun _ => fin (gu_gt (gu_cat st u3 (gu_tup1 wn) (by decide)) (by decide))) (fun _ => ?_)⟩
    refine ⟨_, s4, rfl, _, rfl, ite2 (fun _ => fin (gt_rev u3 (by decide))) (fun _ => ?_)⟩
    refine ⟨_, s4, rfl, _, rfl, ite2 (fun _ => fin (set (gt_tup (by decide) (ga_cons st v5 (ga_cons st (gt_odd s0) (ga_cons st v8 ga_nil)))))) (fun _ => ?_)⟩
    refine ⟨_, s4, rfl, _, rfl, ite2 (fun _ => fin (set (gt_tup (by decide) (ga_cons st (gt_odd s0) (ga_cons st v7 (ga_cons st v8 ga_nil)))))) (fun _ => ?_)⟩
    refine ⟨_, s4, rfl, _, rfl, ite2 (fun _ => fin (set (gt_tup (by decide) (ga_cons st v5 (ga_cons st v7 (ga_cons st (gu_gt (gu_cat st u8 (gu_tup1 dl) (by decide)) (by decide)) ga_nil)))))) (fun _ => ?_)⟩
    refine ⟨_, s4, rfl, _, rfl, ite2 (fun _ => fin (set (gt_tup (by decide) (ga_cons st v5 (ga_cons st v7 (ga_cons st (gt_pick (n := 4) s0 (gl_lst (by decide) (ga_cons st (gt_odd s0) (ga_cons st (gt_rev u8 (by decide)) (ga_cons st (gt_listof u8) (ga_cons st (gu_gt (gu_cat st u8 (gu_tup1 (gt_bl true)) (by decide)) (by decide)) ga_nil))))) (by decide) (by decide) 4 rfl) ga_nil)))))) (fun _ => ?_)⟩
    refine ⟨_, s4, rfl, _, rfl, ite2 (fun _ => fin (set (gt_odd s0))) (fun _ => ?_)⟩
    exact fin (gt_pick (n := 3) s0 (gl_lst (by decide) (ga_cons st (gt_listof u3) (ga_cons st (gu_gt (gu_slc u3 to_no (fun H Q q => to_var s6 H Q q)) (by decide)) (ga_cons st gt_non ga_nil)))) (by decide) (by decide) 3 rfl)
end
end L2.My
end
section
set_option Elab.async false
set_option linter.all false
set_option maxRecDepth 100000
set_option maxHeartbeats 4000000
/-! try, then 'except x as n', then more clauses: what the body raises is of the first's class. -/
namespace L2.My
open PySem PySem.Spec PyProof.Rows
/-- what the first clause wishes: that it is meant -/
def wFst (K : PySem.W.Frag) (c : Value) (i : Nat) (ts : Addr → Value → Option Addr → TS) (D : Ends) : WX := fun cls d σ H =>
  PySem.W.exmOne K cls c = some true ∧ ∀ a, H a = none → ts a cls d { nx := fun σ' H' => D.nx (σ'.set i none) H', rt := D.rt, bk := fun σ' H' => D.bk (σ'.set i none) H', ct := fun σ' H' => D.ct (σ'.set i none) H' } (σ.set i (some (.ref a))) H
section
variable {X : Cx} {x n : Str} {c : Value} {i : Nat} {body suite : List Stmt} {b₀ : Stmt} {hds : List ExceptHandler} {np pos pos' : Pos} {tb : WX → TS} {ts : Addr → Value → Option Addr → TS}
theorem ps_try_fst (hs : X.stack = X.env :: X.outer) (hf : X.env.frame = some X.env.locals) (hN : X.N.Nodup) (hi : X.N[i]? = some n) (hln : X.env.kindOf n = some .local) (hc : Names X x c)
    (hb : ∀ (W : WX) (pn : List (Addr × Obj)) (xe : Value → Shared → Prop), Takes (X.tr pn xe) W → PassesOwn (model X.prog X.w) X.A X.env xe → PSs (X.tr pn xe) body (tb W))
    (hsu : ∀ (a : Addr) (oe : Obj) (cls : Value) (d : Option Addr) (pn : List (Addr × Obj)), Zc cls d oe → (∃ vs, oe.data = .fields vs) → PSs (X.suite a ((a, oe) :: pn)) (b₀ :: suite) (ts a cls d)) :
    PS X (.Try body (.ExceptHandler (some (.Name x np)) (some n) (b₀ :: suite) pos' :: hds) [] [] pos) (fun D σ H => tb (wFst X.K c i ts D) D σ H) := by
  refine ⟨fun pins s σ H D I h => ?_⟩
  have ok := I.ok
  have hfr : X.A.frames = some (X.env :: X.outer) := by rw [ok.frames, hs]
  refine wpAny_Try_except ?_
  -- the body runs, and what it raises lands in the first clause
  refine wpAny_mono ((hb (wFst X.K c i ts D) (X.pn ++ pins) (fun e s₁ => wpAny (model X.prog X.w) X.A (noteFrame e X.env) (fun _ s₂ => wpAny (model X.prog X.w) X.A (setFlight e none) (fun _ s₃ =>
    wpAny (model X.prog X.w) X.A (handleBy e X.env (.ExceptHandler (some (.Name x np)) (some n) (b₀ :: suite) pos' :: hds)) (SP X pins D) X.xe s₃) X.xe s₂) X.xe s₁) (fun u s' xx => ?_) PassesOwn.looking).run [] s σ H D (I.toTry _) h) (fun f s1 hsp => ?_) (fun e s1 he => he)
  rotate_left
  · cases f with
    | next => exact let ⟨σ', H', J', q⟩ := hsp; wpAny_execs_nil ⟨σ', H', J'.ofTry ok, q⟩
    | brk => exact let ⟨σ', H', J', q⟩ := hsp; ⟨σ', H', J'.ofTry ok, q⟩
    | cont => exact let ⟨σ', H', J', q⟩ := hsp; ⟨σ', H', J'.ofTry ok, q⟩
    | ret u => exact let ⟨v, σ', H', J', r, q⟩ := hsp; ⟨v, σ', H', J'.ofTry ok, r, q⟩
  obtain ⟨a, B, sI, pins', σ', H', cls, d, rfl, J', nb, up, sky, na, os, ag, hm, hyes⟩ := xx
  have J : Inv X pins σ' H' sI := J'.ofTry ok
  refine Sky.land Zc.steady hfr hf (show Sky B (X.env :: X.outer) a (Zc cls d) X.env.locals s'.heap by rw [← hs]; exact sky) fun h3 fl3 up3 => ?_
  obtain ⟨oe3, vs3, he3, hz3, hd3⟩ := fl3.there
  have off : a ∉ frs (X.env :: X.outer) := fun hm => by
    obtain ⟨_, o', e', hnf⟩ := fl3.2.2.1.mem hm
    rw [he3] at e'; cases e'
    exact hnf _ hd3
  have nL : a ≠ X.env.locals := fun z => off (List.mem_filterMap.mpr ⟨X.env, List.mem_cons_self, by rw [hf, z]⟩)
  have nF : a ∉ X.fs := fun hm => by
    obtain ⟨e, he, q⟩ := List.mem_filterMap.mp hm
    exact off (List.mem_filterMap.mpr ⟨e, List.mem_cons_of_mem _ he, q⟩)
  have J3 : Inv X pins σ' H' { s' with heap := h3 } := J.landed nb fl3.1 (up.trans up3) os ag
  have S3 := J3.suite he3 hd3 na nL nF
  refine wpAny_handleBy_cons (codeAny_handlers_test ?_) (by intro q; cases q)
  have LT : PySem.W.Looks (model X.prog X.w) h3 (typeOf (.ref a)) cls := fun A Q E s k q => wpAny_typeOf_ref (k _ _ he3) (by rw [hz3.1]; exact q)
  have LM := PySem.W.exm_one (M := model X.prog X.w) (J3.kIn) LT hm
  have test : ∀ {Q : Value → Shared → Prop} {E : Value → Shared → Prop}, Q c { s' with heap := h3 } → wpAny (model X.prog X.w) (X.A.mark (some (.ref a))) (eval (.Name x np) X.env) Q E { s' with heap := h3 } := fun {Q E} q => by
    obtain ⟨hg, hdbg, hm | ⟨hm, hv, hnn⟩⟩ := hc
    · exact ld_glob (X := X.suite a ((a, oe3) :: (X.pn ++ pins))) S3 hg hm q hdbg
    · exact ld_blt (X := X.suite a ((a, oe3) :: (X.pn ++ pins))) S3 hg hm hv q hnn hdbg
  refine test (LM.here ?_)
  refine codeAny_handlers_suite_as ?_
  refine HandSPX.lands_againZ fl3 fun h4 fl4 up4 => ?_
  obtain ⟨oe4, vs4, he4, hz4, hd4⟩ := fl4.there
  have S4 := (J.landed nb fl4.1 ((up.trans up3).trans up4) os ag : Inv X pins σ' H' { s' with heap := h4 }).suite he4 hd4 na nL nF
  refine store_ok (X := X.suite a ((a, oe4) :: (X.pn ++ pins))) (v := .ref a) S4 hN hi (.inl hln) rfl (fun s5 S5 => ?_) (.inr hln)
  refine wpAny_mono ((hsu a oe4 cls d (X.pn ++ pins) hz4 ⟨_, hd4⟩).run [] s5 _ H' _ S5 (hyes a na)) (fun f s6 hsp => ?_) (fun _ _ z => False.elim z)
  have end_ : ∀ {σ6 : St} {H6 : Hp} {Q : Shared → Prop}, Inv (X.suite a ((a, oe4) :: (X.pn ++ pins))) [] σ6 H6 s6 → (∀ s7, Inv X pins (σ6.set i none) H6 s7 → Q s7) →
      wpAny (model X.prog X.w) X.A (do bindName X.env n .none; unbindBehindTheSuite X.env n pos') (fun _ s7 => Q s7) X.xe s6 := fun {σ6 H6 Q} S6 hq => gone_ok (S6.unsuite ok) hN hi hln hq
  cases f with
  | next => exact let ⟨σ6, H6, S6, q6⟩ := hsp; end_ S6 fun s7 J7 => ⟨_, _, J7, q6⟩
  | brk => exact let ⟨σ6, H6, S6, q6⟩ := hsp; end_ S6 fun s7 J7 => ⟨_, _, J7, q6⟩
  | cont => exact let ⟨σ6, H6, S6, q6⟩ := hsp; end_ S6 fun s7 J7 => ⟨_, _, J7, q6⟩
  | ret u => exact let ⟨v6, σ6, H6, S6, r6, q6⟩ := hsp; end_ S6 fun s7 J7 => ⟨_, _, _, J7, r6, q6⟩
end
end L2.My
end
section
set_option Elab.async false
set_option linter.all false
set_option maxRecDepth 100000
set_option maxHeartbeats 4000000
/-! Spoilt parts; what is told and what is due. -/
namespace L2.My
open PySem PySem.Spec PyProof.Rows
abbrev sTold : Stmt := top 42
abbrev sDue : Stmt := top 43
/-- a list that is spoilt -/
structure SI (b g f : Addr) (H G : Hp) (vs : List V) : Prop where
  bl : BL [b] H G
  hb : BoxAt G b g
  hf : G f = some (.lst vs)
  th : ∀ v ∈ vs, Thg b G v
  l3 : vs.length = 3
theorem SI.step {b g f : Addr} {H G G' : Hp} {vs : List V} (h : SI b g f H G vs) (s : BL [b] G G') (hb : BoxAt G' b g) (n : f ≠ b) : SI b g f H G' vs := ⟨h.bl.trans s, hb, s _ _ (by simpa using n) h.hf, fun v hv => (h.th v hv).bl s, h.l3⟩
theorem SI.set {b g f : Addr} {H G : Hp} {vs : List V} (h : SI b g f H G vs) (hf : H f = none) (n : f ≠ b) (n2 : f ≠ g) {v : V} (tv : Thg b G v) (j : Nat) : SI b g f H (upd G f (.lst (vs.set j v))) (vs.set j v) :=
  ⟨h.bl.put hf, h.hb.put n n2, upd_same, fun x hx => by
    rcases List.mem_or_eq_of_mem_set hx with z | z
    · exact (h.th x z).put h.hf
    · rw [z]; exact tv.put h.hf, by rw [List.length_set]; exact h.l3⟩
def spSpo : Sp := fun vs H Q _ => ∃ (b g p la na : Addr) (h : Nat) (ls : List Lf) (ns : List Nd), vs = [.ref b, .ref p] ∧ BoxAt H b g ∧ p ≠ b ∧ H p = some (.lst [.int (h : Nat), .ref la, .ref na]) ∧ LvsAt H la ls ∧ NdsAt H na ns ∧ DrT h ls ns ∧
  ∀ H' f x y z, BL [b] H H' → BoxAt H' b g → H f = none → H' f = some (.lst [x, y, z]) → Thg b H' x → Thg b H' y → Thg b H' z → Q (.ref f) H'
def dueL (h l n : V) : Option Str → List V
  | none => [.str "made", h, l, n]
  | some z => [.str "bad", .str z, .bl false, .bl true]
def spDue : Sp := fun vs H Q _ => ∃ (b p : Addr) (h l n : V), vs = [.ref p] ∧ H p = some (.lst [h, l, n]) ∧ Thg b H h ∧ Thg b H l ∧ Thg b H n ∧ ∀ H' t, Same H H' → H' t = some (.tup (dueL h l n (badT H h l n))) → Q (.ref t) H'
theorem pss_imp {X : Cx} {st : List Stmt} {t t' : TS} (n : Nat) (hn : X.N.length = n) (h : PSs X st t) (hi : ∀ D σ H, σ.length = n → t' D σ H → t D σ H) : PSs X st t' := ⟨fun pins s σ H D I hw => h.run pins s σ H D I (hi D σ H (I.len.trans hn) hw)⟩
theorem len4 {α : Type} {l : List α} (h : l.length = 4) : ∃ x0 x1 x2 x3, l = [x0, x1, x2, x3] := by
  match l, h with
  | [x0, x1, x2, x3], _ => exact ⟨x0, x1, x2, x3, rfl⟩
section
variable {X : Cx}
/-- isinstance of the caught error that has a dict -/
def rIsS (K : PySem.W.Frag) (a : Addr) (cls : Value) (d : Option Addr) : List V → Hp → VK → Prop := fun xs H Q => ∃ (C dd : Addr) (fs : List (Str × V)) (c : V) (u : Value) (b : Bool), cls = .ref C ∧ d = some dd ∧ H dd = some (.xd fs) ∧ XC K C ∧ xs = [.ref a, c] ∧ ClsV c u ∧ PySem.W.kitOne K (.ref C) u = some b ∧ Q (.bl b) H
theorem inst_suite {a C dd : Addr} {oe : Obj} {pn pins : List (Addr × Obj)} {σ : St} {H : Hp} {s : Shared} {fs : List (Str × V)} (hz : Zc (.ref C) (some dd) oe) (hf : ∃ vs, oe.data = .fields vs) (I : Inv (X.suite a ((a, oe) :: pn)) pins σ H s) (ea : H dd = some (.xd fs)) : ∃ od, s.heap.get? dd = some od ∧ PySem.W.InstAt s.heap a oe C (some od) ∧ ∃ mA, s.heap.Ns1 dd mA ∧ ∀ f, RelO (fs.lookup f) (mA f) := by
  obtain ⟨ha, _⟩ := I.pin (a, oe) (List.mem_append_left _ List.mem_cons_self)
  obtain ⟨vs, hd⟩ := hf
  have hx : ObjOk X.prog X.w H s.heap dd (.xd fs) := I.hok dd _ ea
  obtain ⟨mA, hns, hr⟩ := hx
  obtain ⟨od, ho, hl⟩ := lookIn_ns hns
  exact ⟨od, ho, ⟨ha, hz.1, by unfold PySem.W.notCls; rw [hd] <;> rfl, by rw [hz.2]; exact ho⟩, mA, hns, hr⟩
theorem call_isS {a : Addr} {oe : Obj} {cls : Value} {d : Option Addr} {pn : List (Addr × Obj)} (hz : Zc cls d oe) (hf : ∃ vs, oe.data = .fields vs) : CallR (X.suite a ((a, oe) :: pn)) (.builtin "isinstance") (rIsS X.K a cls d) := by
  intro pins s σ H xs us Q I r h
  obtain ⟨C, dd, fs, c, u, b, rfl, rfl, ed, T, rfl, k, e, q⟩ := h
  obtain ⟨u1, u2, rfl, r1, r2⟩ := vals2 r
  have e2 := k.eq r2
  subst e2
  cases (show u1 = Value.ref a from r1)
  obtain ⟨od, _, J, _⟩ := inst_suite hz hf I ed
  exact PySem.W.kia_one (PySem.W.kitx_exc T.cl T.hga T.hgt T.o.exC T.ha T.hn T.ht T.hm) I.kIn J e (fun z => nomatch z) fun tk => ⟨.bl b, H, I.tok tk, rfl, q⟩
/-- e.f, e the error that the suite holds -/
def tXby (K : PySem.W.Frag) (a : Addr) (cls : Value) (d : Option Addr) (f : Str) (te : TE) : TE := fun σ H Q => te σ H fun x H1 => ∃ (C dd : Addr) (fs : List (Str × V)) (v : V), x = .ref a ∧ cls = .ref C ∧ d = some dd ∧ XC K C ∧ PySem.W.findIn K (.ref C) f = some none ∧ H1 dd = some (.xd fs) ∧ fs.lookup f = some v ∧ Q v H1
theorem pe_xby {a : Addr} {oe : Obj} {cls : Value} {d : Option Addr} {pn : List (Addr × Obj)} {e : Expr} {te : TE} {pos : Pos} {n : Str} (hz : Zc cls d oe) (hf : ∃ vs, oe.data = .fields vs) (he : PE (X.suite a ((a, oe) :: pn)) e te)
    (hb : attributeBase e n X.env (eval e X.env) = eval e X.env := by rfl) : PE (X.suite a ((a, oe) :: pn)) (.Attribute e n pos) (tXby X.K a cls d n te) := by
  refine ⟨fun pins s σ H Q I h => ?_⟩
  refine attr_of hb (thn (he.run pins s σ H _ I h) fun u s1 hh => ?_)
  obtain ⟨x, H1, I1, rx, C, dd, fs, v, ex, ec, ed, T, hno, ea, l, q⟩ := hh
  subst ex
  obtain rfl : u = Value.ref a := rx
  subst ec
  subst ed
  obtain ⟨od, ho, J, mA, hns, hr⟩ := inst_suite hz hf I1 ea
  obtain ⟨od2, ho2, hl⟩ := lookIn_ns hns
  rw [ho] at ho2
  cases ho2
  obtain ⟨u, hu, ru⟩ := RelO.some_of (v := v) (o := mA n) (by rw [← l]; exact hr n)
  exact HandSPX.exc_get I1.kIn J T.hga T.hgt T.o.exC (PySem.W.findObj_own T.hd hno rfl (by rw [hl, hu])) (handed_of ru) ⟨v, H1, I1.tok _, ru, q⟩
end
/-- what makes a tree -/
structure MkT (P : Program) (w : World) (K : PySem.W.Frag) (mg : Str → Option Value) (base : Heap) (k : Nat) (C B : Addr) where
  f : Addr
  fd : FuncData
  M : Mk K C f
  F : FnOk P w K mg base (CX P w) k f fd ["self", "height", "leaves", "nodes"] (spTree C B)
  g : mg "Tree" = some (.ref C)
  b : Binds K fd ["self", "height", "leaves", "nodes"] []
/-- the other classes of errors -/
structure BadD (K : PySem.W.Frag) (mg : Str → Option Value) (B : Addr) where
  L0 : Addr
  gL : mg "NoLeaf" = some (.ref L0)
  kL : PySem.W.kitOne K (.ref B) (.ref L0) = some false
  N0 : Addr
  gN : mg "NoNode" = some (.ref N0)
  kN : PySem.W.kitOne K (.ref B) (.ref N0) = some false
def tSuite (B a : Addr) (cls : Value) (d : Option Addr) : TS := fun D σ H => ∃ dd v, cls = .ref B ∧ d = some dd ∧ H dd = some (.xd [("part", v)]) ∧ (σ.length = 4 → σ[3]? = some (some (.ref a))) ∧ ∀ p H2, σ.length = 4 → Same H H2 → H2 p = some (.tup [.str "bad", v, .bl false, .bl true]) → D.nx (σ.set 1 (some (.ref p))) H2
section
variable {P : Program} {w : World} {K : PySem.W.Frag} {mg : Str → Option Value} {base : Heap} {C B : Addr}
abbrev nSpo : List Str := ["box", "parts", "found", "kind"]
theorem scSpo : FnScope nSpo ["box", "parts"] (defScope sSpo) := ⟨rfl, rfl, rfl, by decide +kernel, rfl, by decide +kernel, by decide +kernel⟩
theorem ok_spo {f : Addr} {fd : FuncData} {k : Nat} (F : Fun K "_law_spoilt" "_law_spoilt" sSpo f fd) (T : Tx mg) (cD : Cal P w K mg base (k + 5) "_law_draw" ["box", "menu"] spDraw) (cO : Cal P w K mg base (k + 5) "_law_odd" ["box"] spOdd) (cL : Cal P w K mg base (k + 5) "_law_leaf_spoilt" ["box", "leaves"] spLsp) (cN : Cal P w K mg base (k + 5) "_law_node_spoilt" ["box", "height", "leaves", "nodes"] spNsp) : FnOk P w K mg base CX0 (k + 6) f fd ["box", "parts"] spSpo := by
  refine F.ok scSpo (fun vs H Q E h => ?_) (fun cdv A outer s H vs Q E hr h => ?_)
  · obtain ⟨b, g, p, la, na, h, ls, ns, rfl, _⟩ := h
    rfl
  · obtain ⟨b, g, p, la, na, h, ls, ns, rfl, hB, npb, hp, hL, hN, d, q⟩ := h
    refine ⟨_, (pss_cons (ps_set (i := 2) scSpo.nd rfl (Or.inl rfl) (pe_callTy call_list_of (by rfl) T.list_ (by decide +kernel) (pa_cons (pv 1) pa_nil))) (pss_cons (ps_set (i := 3) scSpo.nd rfl (Or.inl rfl) (pe_c cD hr (by omega) (by rfl) (pa_cons (pv 0) (pa_cons pe_int pa_nil)))) (pss_cons (ps_if (pt_cmpR op_eq (pv 3) pe_int (nomark _)) (pss_one (ps_asg (pe_ix ix_list (pe_lst (pa_cons (pe_op op_add (pe_ix ix_list (pv 2) pe_int (fun _ _ => rfl)) pe_int) (pa_cons (pe_op op_sub (pe_ix ix_list (pv 2) pe_int (fun _ _ => rfl)) pe_int) (pa_cons (pe_c cO hr (by omega) (by rfl) (pa_cons (pv 0) pa_nil)) pa_nil)))) (pe_c cD hr (by omega) (by rfl) (pa_cons (pv 0) (pa_cons pe_int pa_nil))) (fun _ _ => rfl)) (pg_sub (pv 2) pe_int set_list))) (pss_one (ps_if (pt_cmpR op_lt (pv 3) pe_int (nomark _)) (pss_one (ps_asg (pe_c cL hr (by omega) (by rfl) (pa_cons (pv 0) (pa_cons (pe_ix ix_list (pv 2) pe_int (fun _ _ => rfl)) pa_nil))) (pg_sub (pv 2) pe_int set_list))) (pss_one (ps_asg (pe_c cN hr (by omega) (by rfl) (pa_cons (pv 0) (pa_cons (pe_ix ix_list (pv 2) pe_int (fun _ _ => rfl)) (pa_cons (pe_ix ix_list (pv 2) pe_int (fun _ _ => rfl)) (pa_cons (pe_ix ix_list (pv 2) pe_int (fun _ _ => rfl)) pa_nil))))) (pg_sub (pv 2) pe_int set_list)))))) (pss_cons (ps_if (pt_cmpR op_eq (pv 3) pe_int (nomark _)) (pss_one (ps_asg (pe_c cO hr (by omega) (by rfl) (pa_cons (pv 0) pa_nil)) (pg_sub (pv 2) (pe_c cD hr (by omega) (by rfl) (pa_cons (pv 0) (pa_cons pe_int pa_nil))) set_list))) pss_nil) (pss_one (ps_ret (pv 2))))))), ?_⟩
    refine ⟨_, rfl, p, _, rfl, .inl (.of hp), fun f nf => ?_⟩
    have s1 := same_upd (o := HO.lst [.int (h : Nat), .ref la, .ref na]) nf
    have nfb := hB.nb nf
    have nfg := hB.ng nf
    have hB1 := hB.same s1
    have hf1 : (upd H f (.lst [.int (h : Nat), .ref la, .ref na])) f = some (.lst [.int (h : Nat), .ref la, .ref na]) := upd_same
    have hL1 := hL.tk (.same s1)
    have hN1 := hN.tk (.same s1)
    generalize upd H f (.lst [.int (h : Nat), .ref la, .ref na]) = H1 at *
    refine ⟨_, rfl, b, g, 8, rfl, hB1, by decide, by decide, fun H2 kd bl2 hB2 _ _ => ?_⟩
    have bl := (BL.same s1).trans bl2
    have tk2 := hB1.tk bl2
    have hL2 := hL1.tk tk2
    have hN2 := hN1.tk tk2
    have hf2 := bl2 _ _ (by simpa using nfb) hf1
    have h8 := d.h8
    have hmx : ((h : Nat) : Int) ≤ maxI := by
      have e : (8 : Int) ≤ maxI := by decide
      omega
    have si2 : SI b g f H H2 [.int (h : Nat), .ref la, .ref na] := ⟨bl, hB2, hf2, fun v hv => by
      rcases List.mem_cons.mp hv with rfl | hv
      · exact .int _ hmx
      · rcases List.mem_cons.mp hv with rfl | hv
        · exact thg_lvs hB2.nt hL2 d.gl (Nat.le_trans d.l256 (by decide))
        · rw [List.mem_singleton.mp hv]; exact thg_nds hB2.nt hN2 d, rfl⟩
    dsimp only [gName]
    refine seq_use (fun σ G => ∃ vs, σ = [some (.ref b), some (.ref p), some (.ref f), some (.int kd)] ∧ SI b g f H G vs) ?_ (fun hrest => ?_)
    · rintro σ G ⟨vs, rfl, si⟩
      have fin : ∀ σ G vs, σ = [some (.ref b), some (.ref p), some (.ref f), some (.int kd)] → SI b g f H G vs → tRet (tVar 2) { nx := fun x H' => Q V.non H', rt := Q } σ G := fun σ G vs e si => by
        subst e
        refine ⟨_, rfl, ?_⟩
        obtain ⟨x, y, z, rfl⟩ : ∃ x y z, vs = [x, y, z] := by
          match vs, si.l3 with
          | [x, y, z], _ => exact ⟨x, y, z, rfl⟩
        exact q G f x y z si.bl si.hb nf si.hf (si.th x (by simp)) (si.th y (by simp)) (si.th z (by simp))
      refine ⟨_, rfl, rfl, _, rfl, ite2 (fun _ => ?_) (fun _ => fin _ _ _ rfl si)⟩
      refine ⟨_, rfl, b, g, rfl, si.hb, fun G3 v bl3 hB3 tv => ⟨_, rfl, _, rfl, b, g, 2, rfl, hB3, by decide, by decide, fun G4 r bl4 hB4 r0 r1 => ?_⟩⟩
      obtain ⟨j, rfl⟩ : ∃ j : Nat, r = j := ⟨r.toNat, by omega⟩
      have si4 := (si.step bl3 hB3 nfb).step bl4 hB4 nfb
      exact ⟨f, vs, _, j, rfl, rfl, si4.hf, ixN_nat (by rw [si4.l3]; omega), fin _ _ _ rfl (si4.set nf nfb nfg (tv.bl bl4) j)⟩
    · have st := stb_bl b H2
      have put : ∀ {D : Ends} {te : TE} {j : Int} (m : Nat), ixN 3 j = some m → GT b g (fun G => BL [b] H2 G) [some (.ref b), some (.ref p), some (.ref f), some (.int kd)] te → (∀ G vs, SI b g f H G vs → D.nx [some (.ref b), some (.ref p), some (.ref f), some (.int kd)] G) → tAsg te (gSub (tVar 2) (tC (.int j)) rSetL) D [some (.ref b), some (.ref p), some (.ref f), some (.int kd)] H2 := fun {D te j} m hm ht hD => by
        unfold tAsg
        refine ht H2 _ hB2 .refl fun G v s hG tv => ?_
        have si3 := si2.step s hG nfb
        exact ⟨_, rfl, f, _, _, m, rfl, rfl, si3.hf, hm, hD _ _ (si3.set nf nfb nfg tv m)⟩
      have ixf : ∀ (j : Nat) (v : V), ([.int (h : Nat), .ref la, .ref na] : List V)[j]? = some v → ∀ G (Q : VK), BL [b] H2 G → Q v G → tOp (rIxL K) (tVar 2) (tC (.int (j : Nat))) [some (.ref b), some (.ref p), some (.ref f), some (.int kd)] G Q := fun j v e G Q s q => ⟨_, rfl, f, _, _, v, rfl, rfl, .of (s _ _ (by simpa using nfb) hf2), atI_nat e, q⟩
      refine ⟨_, rfl, rfl, _, rfl, ite2 (fun _ => ?_) (fun _ => ?_)⟩
      · refine put 0 rfl (gt_pick (n := 3) rfl (gl_lst (by decide) (ga_cons st ?_ (ga_cons st ?_ (ga_cons st (gt_odd rfl) ga_nil)))) (by decide) (by decide) 3 rfl) fun G vs si => hrest _ _ ⟨vs, rfl, si⟩
        · exact fun G Q hB p q => ixf 0 _ rfl G _ p ⟨_, _, rfl, rfl, q G _ .refl hB (.int _ (by
            have e : (100 : Int) ≤ maxI := by decide
            omega))⟩
        · exact fun G Q hB p q => ixf 0 _ rfl G _ p ⟨_, _, rfl, rfl, q G _ .refl hB (.int _ (by omega))⟩
      · refine ⟨_, rfl, _, _, rfl, rfl, _, rfl, ite2 (fun _ => ?_) (fun _ => ?_)⟩
        · refine put 1 rfl (fun G Q hB pG qG => ⟨_, rfl, ixf 1 _ rfl G _ pG ?_⟩) fun G vs si => hrest _ _ ⟨vs, rfl, si⟩
          obtain ⟨xs, hla, hpx⟩ := hL2
          have hla' := pG _ _ (by simpa using hB2.nt.ne hla) hla
          exact ⟨b, g, la, xs, ls, rfl, hB, hla', Paired.mapP hpx fun _ _ r => r.tk (hB2.tk pG), d.gl, by rw [d.ll]; exact Nat.one_le_two_pow, d.l256, fun G' v s hG tv => qG G' v s hG tv⟩
        · refine put 2 rfl (fun G Q hB pG qG => ⟨_, rfl, ixf 0 _ rfl G _ pG (ixf 1 _ rfl G _ pG (ixf 2 _ rfl G _ pG ?_))⟩) fun G vs si => hrest _ _ ⟨vs, rfl, si⟩
          obtain ⟨xs, hla, hpx⟩ := hL2
          have hla' := pG _ _ (by simpa using hB2.nt.ne hla) hla
          exact ⟨b, g, la, na, h, xs, ls, ns, rfl, hB, hla', Paired.len hpx, by rw [d.ll]; exact Nat.one_le_two_pow, hN2.tk (hB2.tk pG), d, fun G' v s hG tv => qG G' v s hG tv⟩
theorem scDue : FnScope ["parts", "bad"] ["parts"] (defScope sDue) := ⟨rfl, rfl, rfl, by decide +kernel, rfl, by decide +kernel, by decide +kernel⟩
theorem ok_due {f : Addr} {fd : FuncData} {k : Nat} (F : Fun K "_law_due" "_law_due" sDue f fd) (T : Tx mg) (cB : Cal P w K mg base (k + 4) "_law_bad" ["parts"] spLbd) : FnOk P w K mg base CX0 (k + 5) f fd ["parts"] spDue := by
  refine F.ok scDue (fun vs H Q E h => ?_) (fun cdv A outer s H vs Q E hr h => ?_)
  · obtain ⟨b, p, h, l, n, rfl, _⟩ := h
    rfl
  · obtain ⟨b, p, h, l, n, rfl, hp, th, tl, tn, q⟩ := h
    refine ⟨_, (pss_cons (ps_set (i := 1) scDue.nd rfl (Or.inl rfl) (pe_c cB hr (by omega) (by rfl) (pa_cons (pv 0) pa_nil))) (pss_one (ps_ret (pe_ifExp (pt_cmpR op_isN (pv 1) pe_non (nomark _)) (pe_tup (pa_cons pe_str (pa_cons (pe_ix ix_list (pv 0) pe_int (fun _ _ => rfl)) (pa_cons (pe_ix ix_list (pv 0) pe_int (fun _ _ => rfl)) (pa_cons (pe_ix ix_list (pv 0) pe_int (fun _ _ => rfl)) pa_nil))))) (pe_tup (pa_cons pe_str (pa_cons (pv 1) (pa_cons pe_bl (pa_cons pe_bl pa_nil))))))))), ?_⟩
    refine ⟨_, rfl, b, p, h, l, n, rfl, hp, th, tl, tn, fun H2 s2 => ?_⟩
    have hp2 := s2 _ _ hp
    refine ⟨_, rfl, rfl, _, rfl, ?_⟩
    cases e : badT H h l n with
    | none =>
      rw [e] at q
      exact iteT ⟨_, rfl, p, _, _, h, rfl, rfl, .of hp2, atI_nat (j := 0) rfl, _, rfl, p, _, _, l, rfl, rfl, .of hp2, atI_nat (j := 1) rfl, _, rfl, p, _, _, n, rfl, rfl, .of hp2, atI_nat (j := 2) rfl, by show 4 ≤ sizeLine; decide, fun t nt => q _ t (s2.trans (same_upd nt)) upd_same⟩
    | some z =>
      rw [e] at q
      exact iteF ⟨_, rfl, by show 4 ≤ sizeLine; decide, fun t nt => q _ t (s2.trans (same_upd nt)) upd_same⟩
abbrev nTo : List Str := ["parts", "found", "one", "error"]
theorem scTold : FnScope nTo ["parts"] (defScope sTold) := ⟨rfl, rfl, rfl, by decide +kernel, rfl, by decide +kernel, by decide +kernel⟩
theorem ok_told {f : Addr} {fd : FuncData} {k : Nat} (F : Fun K "_law_told" "_law_told" sTold f fd) (T : Tx mg) (c : TrC K C) (N : BadC P w K mg base B) (M : BadD K mg B) (R : MkT P w K mg base (k + 5) C B) : FnOk P w K mg base CX0 (k + 7) f fd ["parts"] spDue := by
  refine F.ok scTold (fun vs H Q E h => ?_) (fun cdv A outer s H vs Q E hr h => ?_)
  · obtain ⟨b, p, h, l, n, rfl, _⟩ := h
    rfl
  · obtain ⟨b, p, h, l, n, rfl, hp, th, tl, tn, q⟩ := h
    refine ⟨_, pss_cons (ps_set (i := 1) scTold.nd rfl (Or.inl rfl) (pe_tup (pa_cons pe_str pa_nil))) (pss_cons (ps_try_fst (X := (cxOf CX0 P w K mg base nTo "_law_told" (defScope sTold) f cdv A outer s H E).nox) (i := 3) (c := .ref B) (ts := tSuite B)
      (tb := fun W D σ H => ∃ Ech : XK, (∀ cls d σ' H', Ech cls d H' → W cls d σ' H') ∧ tSeq (tAsg (tMake C (spTree C B) [] Ech (tCons (tOp (rIxL K) (tVar 0) (tC (.int 0))) (tCons (tOp (rIxL K) (tVar 0) (tC (.int 1))) (tCons (tOp (rIxL K) (tVar 0) (tC (.int 2))) tNil)))) (gName 2)) (tAsg (tTup (tCons (tC (.str "made")) (tCons (tFld K (tVar 2) "height") (tCons (tFld K (tVar 2) "leaves") (tCons (tFld K (tVar 2) "nodes") tNil))))) (gName 1)) D σ H)
      rfl rfl scTold.nd rfl rfl ⟨rfl, rfl, .inl N.g⟩ (fun W pn xe tk _ => ?_) (fun a oe cls d pn hz hf => pss_imp 4 rfl (pss_one (ps_set (i := 1) scTold.nd rfl (Or.inl rfl)
        (pe_tup (pa_cons pe_str (pa_cons (pe_xby (X := (cxOf CX0 P w K mg base nTo "_law_told" (defScope sTold) f cdv A outer s H E).nox) hz hf (pv 3))
          (pa_cons (pe_or (pe_callB (call_isS (X := (cxOf CX0 P w K mg base nTo "_law_told" (defScope sTold) f cdv A outer s H E).nox) hz hf) (by rfl) T.isi (by decide +kernel) (pa_cons (pv 3) (pa_cons (pe_glob (v := .ref M.L0) (by rfl) M.gL rfl) pa_nil)))
            (pe_one (pe_callB (call_isS (X := (cxOf CX0 P w K mg base nTo "_law_told" (defScope sTold) f cdv A outer s H E).nox) hz hf) (by rfl) T.isi (by decide +kernel) (pa_cons (pv 3) (pa_cons (pe_glob (v := .ref M.N0) (by rfl) M.gN rfl) pa_nil)))))
          (pa_cons (pe_callB (call_isS (X := (cxOf CX0 P w K mg base nTo "_law_told" (defScope sTold) f cdv A outer s H E).nox) hz hf) (by rfl) T.isi (by decide +kernel) (pa_cons (pv 3) (pa_cons (pe_glob (v := .ref N.P0) (by rfl) N.gP rfl) pa_nil)))
          pa_nil))))))) ?_))
      (pss_one (ps_ret (pv 1)))), ?_⟩
    · refine ⟨fun pins s' σ H' D I h' => ?_⟩
      obtain ⟨Ech, hW, h1⟩ := h'
      exact (pss_cons (ps_set (i := 2) scTold.nd rfl (Or.inl rfl) (pe_make R.M R.F (hr.mono (by omega)) (by rfl) R.g R.b .nil (passes_call tk hW) (pa_cons (pe_ix ix_list (pv 0) pe_int (fun _ _ => rfl)) (pa_cons (pe_ix ix_list (pv 0) pe_int (fun _ _ => rfl)) (pa_cons (pe_ix ix_list (pv 0) pe_int (fun _ _ => rfl)) pa_nil)))))
        (pss_one (ps_set (i := 1) scTold.nd rfl (Or.inl rfl) (pe_tup (pa_cons pe_str (pa_cons (pe_fld (pv 2) rfl) (pa_cons (pe_fld (pv 2) rfl) (pa_cons (pe_fld (pv 2) rfl) pa_nil)))))))).run pins s' σ H' D I h1
    · rintro D σ H2 hl ⟨dd, v, rfl, rfl, ed, e2, q2⟩
      have e2 := e2 hl
      have q2 := fun p H3 => q2 p H3 hl
      obtain ⟨x0, x1, x2, x3, rfl⟩ := len4 hl
      obtain rfl : x3 = some (.ref a) := Option.some.inj e2
      refine ⟨_, rfl, B, dd, _, v, rfl, rfl, rfl, N.x, N.no, ed, rfl, ?_⟩
      refine ⟨_, rfl, B, dd, _, .ref M.L0, _, _, rfl, rfl, ed, N.x, rfl, .own _, M.kL, _, rfl, iteF ?_⟩
      refine ⟨_, rfl, B, dd, _, .ref M.N0, _, _, rfl, rfl, ed, N.x, rfl, .own _, M.kN, ?_⟩
      refine ⟨_, rfl, B, dd, _, .ref N.P0, _, _, rfl, rfl, ed, N.x, rfl, .own _, N.kP, by show 4 ≤ sizeLine; decide, fun p np => ?_⟩
      exact q2 p _ (same_upd np) upd_same
    · refine ⟨by show 1 ≤ sizeLine; decide, fun t0 nt0 => ?_⟩
      have s0 := same_upd (o := HO.tup [.str "other"]) nt0
      have hp0 := s0 _ _ hp
      have th0 := th.same s0
      have tl0 := tl.same s0
      have tn0 := tn.same s0
      have eb := badT_bl (h := h) tl tn (.same s0)
      generalize upd H t0 (.tup [.str "other"]) = H0 at *
      refine ⟨fun cls d H' => cls = .ref B ∧ ∃ dd z, d = some dd ∧ Same H H' ∧ H' dd = some (.xd [("part", .str z)]) ∧ badT H h l n = some z, ?_, ?_⟩
      · rintro cls d σ' H' ⟨rfl, dd, z, rfl, sm, ed, hz⟩
        refine ⟨N.te, fun a ha => ⟨dd, .str z, rfl, rfl, ed, fun hl => ?_, fun t H2 hl s2 h2 => ?_⟩⟩
        · rw [List.length_set] at hl
          obtain ⟨x0, x1, x2, x3, rfl⟩ := len4 hl
          rfl
        · rw [List.length_set] at hl
          obtain ⟨x0, x1, x2, x3, rfl⟩ := len4 hl
          exact ⟨.ref t, rfl, q H2 t (sm.trans s2) (by rw [hz]; exact h2)⟩
      · refine ⟨_, rfl, p, _, _, h, rfl, rfl, .of hp0, atI_nat (j := 0) rfl, _, rfl, p, _, _, l, rfl, rfl, .of hp0, atI_nat (j := 1) rfl, _, rfl, p, _, _, n, rfl, rfl, .of hp0, atI_nat (j := 2) rfl, fun x dx nx ndx ne => ?_⟩
        have s1 : Same H0 (upd (upd H0 dx (.own x)) x (.ins C dx [])) := (same_upd ndx).trans (same_upd (by rw [upd_ne (Ne.symm ne)]; exact nx))
        refine ⟨b, x, dx, h, l, n, rfl, upd_same, th0.same s1, tl0.same s1, tn0.same s1, fun hn H' bl hx' => ⟨rfl, ?_⟩, fun z hz H' d sm nd ed => ?_⟩
        · rw [badT_bl tl0 tn0 (.same s1), eb] at hn
          have s3 : Same H0 H' := fun p o hp => bl p o (by
            intro hm
            rw [List.mem_singleton.mp hm, nx] at hp
            cases hp) (s1 _ _ hp)
          refine ⟨_, rfl, x, C, dx, _, _, rfl, hx', c.cls, c.na _ (by simp), rfl, _, rfl, x, C, dx, _, _, rfl, hx', c.cls, c.na _ (by simp), rfl, _, rfl, x, C, dx, _, _, rfl, hx', c.cls, c.na _ (by simp), rfl, by show 4 ≤ sizeLine; decide, fun t nt => ?_⟩
          exact ⟨_, rfl, q _ t (s0.trans (s3.trans (same_upd nt))) (by rw [hn]; exact upd_same)⟩
        · rw [badT_bl tl0 tn0 (.same s1), eb] at hz
          exact ⟨rfl, d, z, rfl, s0.trans (s1.trans sm), ed, hz⟩
end
end L2.My
end
section
set_option Elab.async false
set_option linter.all false
set_option maxRecDepth 100000
set_option maxHeartbeats 4000000
/-! == of trees. -/
namespace L2.My
open PySem PySem.Spec PyProof.Rows
abbrev sEqual : Stmt := top 44
def TreeAt (H : Hp) (C x dx la na : Addr) (h : Nat) (ls : List Lf) (ns : List Nd) : Prop := H x = some (.ins C dx [("height", .int (h : Nat)), ("leaves", .ref la), ("nodes", .ref na)]) ∧ LvsAt H la ls ∧ NdsAt H na ns
theorem depM {α : Type} {f : α → PyData} {n : Nat} (h : ∀ x, PyData.depth (f x) ≤ n) : ∀ xs : List α, PyData.depthAll (xs.map f) ≤ n + 1
  | [] => by
    simp only [List.map_nil, PyData.depthAll]
    omega
  | x :: r => by
    have h1 := depM h r
    have h2 := h x
    simp only [List.map_cons, PyData.depthAll]
    omega
theorem dep_tup {α : Type} {f : α → PyData} {n : Nat} (h : ∀ x, PyData.depth (f x) ≤ n) (xs : List α) : PyData.depth (.tuple (xs.map f)) ≤ n + 2 := by
  have := depM h xs
  simp only [PyData.depth]
  omega
theorem dep_lf (l : Lf) : PyData.depth (dLf l) ≤ 4 := by
  cases l with
  | none => simp only [dLf, PyData.depth]; omega
  | some p => simp only [dLf, PyData.depth, PyData.depthAll]; omega
theorem dep_nd (n : Nd) : PyData.depth (dNd n) ≤ 8 := by
  have h1 := dep_tup (f := fun (j : Nat) => PyData.int j) (n := 1) (fun x => by simp only [PyData.depth]; omega) n.2.2
  simp only [dNd, dNats, PyData.depth, PyData.depthAll] at h1 ⊢
  omega
theorem dep_lvs (ls : List Lf) : PyData.depth (dLvs ls) ≤ 6 := dep_tup dep_lf ls
theorem dep_nds (ns : List Nd) : PyData.depth (dNds ns) ≤ 10 := dep_tup dep_nd ns
theorem shaped_of {d : PyData} (h1 : Nice d) (h2 : PyData.depth d ≤ 40) : SeqAt.shaped d = true := by
  simp only [SeqAt.shaped, h1.cl, Bool.true_and]
  exact decide_eq_true (by omega)
theorem nice_lvs {ls : List Lf} (h : ∀ l ∈ ls, GLf l) : Nice (dLvs ls) := .tup (.map fun l hl => nice_lf (h l hl))
theorem nice_nds {ns : List Nd} (h : ∀ n ∈ ns, GNd n) : Nice (dNds ns) := .tup (.map fun n hn => nice_nd (h n hn))
def dPt (h : Nat) (ls : List Lf) (ns : List Nd) : PyData := .list [.int (h : Nat), dLvs ls, dNds ns]
theorem nice_h {h : Nat} (hh : h ≤ 8) : Nice (.int (h : Nat)) := .int (Nat.le_trans (show ((h : Nat) : Int).natAbs ≤ 8 by omega) (by decide))
theorem shaped_pt {h : Nat} {ls : List Lf} {ns : List Nd} (g : GTr h ls ns) : SeqAt.shaped (dPt h ls ns) = true := by
  have h1 := dep_lvs ls
  have h2 := dep_nds ns
  refine shaped_of (.lst (.cons (nice_h g.h8) (.cons (nice_lvs g.gl) (.cons (nice_nds g.gn) .nil)))) ?_
  simp only [dPt, PyData.depth, PyData.depthAll]
  omega
theorem eqv_pt (h h2 : Nat) (ls ls2 : List Lf) (ns ns2 : List Nd) : PyData.eqv (dPt h ls ns) (dPt h2 ls2 ns2) = decide (h = h2 ∧ ls = ls2 ∧ ns = ns2) := by
  unfold dPt
  rw [PyData.eqv, PyData.eqvAll, PyData.eqvAll, PyData.eqvAll, PyData.eqvAll, eqv_int, eqv_lvs, eqv_nds, Bool.and_true, ← Bool.decide_and, ← Bool.decide_and]
  exact decide_eq_decide.mpr (by rw [Int.natCast_inj])
theorem dpPt {K : PySem.W.Frag} {H : Hp} {p la na : Addr} {h : Nat} {ls : List Lf} {ns : List Nd} (hp : H p = some (.lst [.int (h : Nat), .ref la, .ref na])) (h1 : LvsAt H la ls) (h2 : NdsAt H na ns) : Dp K H (.ref p) (dPt h ls ns) := .lst (.of hp) (.cons (.int _) (.cons (dpLvs h1) (.cons (dpNds h2) .nil)))
/-- what isinstance asks of the class -/
structure TrI (K : PySem.W.Frag) (C : Addr) : Prop where
  ha : PySem.W.findIn K (.ref C) "__class__" = some (some (.builtin "object.__class__"))
  hn : PySem.W.specialIn K (.builtin "object.__class__") "__get__" = some (some (.builtin "getset_descriptor.__get__"))
  htk : PySem.W.takesIn K (.builtin "object.__class__") = some true
  hm : PySem.W.mroIn K C (.type "object") = some true
  self : PySem.W.kitOne K (.ref C) (.ref C) = some true
def spEq (K : PySem.W.Frag) (C : Addr) : Sp := fun vs H Q _ => ∃ x dx la na h ls ns y, vs = [.ref x, y] ∧ TreeAt H C x dx la na h ls ns ∧ GTr h ls ns ∧
  ((∃ z dz la2 na2 h2 ls2 ns2, y = .ref z ∧ TreeAt H C z dz la2 na2 h2 ls2 ns2 ∧ GTr h2 ls2 ns2 ∧ Q (.bl (decide (h = h2 ∧ ls = ls2 ∧ ns = ns2))) H) ∨ ∃ t, TyX K H y t ∧ PySem.W.kitOne K t (.ref C) = some false ∧ Q (.bl false) H)
structure EqT (P : Program) (w : World) (K : PySem.W.Frag) (mg : Str → Option Value) (base : Heap) (k : Nat) (C : Addr) where
  f : Addr
  fd : FuncData
  F : FnOk P w K mg base CX0 k f fd ["self", "other"] (spEq K C)
  hs : PySem.W.findIn K (.ref C) "__eq__" = some (some (.ref f))
  hf : PySem.W.isFn K (.ref f) = true
  b : Binds K fd ["self", "other"] []
  nf : PySem.W.notFirst K C (.ref C) = true
  nt : PySem.W.notFirst K C (.type "tuple") = true
  kt : PySem.W.kitOne K (.type "tuple") (.ref C) = some false
theorem pass_no {X : Cx} : Passes (CX X.prog X.w) X E0 := fun pins σ H s e s' I h => by
  obtain ⟨_, _, _, _, _, _, _, _, _, _, _, _, hE⟩ := h
  exact hE.elim
theorem DrT.gtr {b la na : Addr} {H : Hp} {h : Nat} {ls : List Lf} {ns : List Nd} (d : DrT h ls ns) : GTr h ls ns := by
  refine ⟨d.h8, d.l256, d.gl, d.nl, fun n hn => ?_⟩
  have r := d.gn n hn
  have h8 := d.h8
  have hl := d.l256
  exact ⟨by have := r.lh; omega, r.l1, r.b128 h8, r.k0, r.k1, r.le, fun j hj => by
    obtain ⟨_, z, hz⟩ := r.as j hj
    have := (List.getElem?_eq_some_iff.mp hz).1
    omega⟩
section
variable {P : Program} {w : World} {K : PySem.W.Frag} {mg : Str → Option Value} {base : Heap} {C B : Addr}
theorem scEq : FnScope ["self", "other"] ["self", "other"] (defScope (mT 1)) := ⟨rfl, rfl, rfl, by decide +kernel, rfl, by decide +kernel, by decide +kernel⟩
theorem ok_eq {f : Addr} {fd : FuncData} {k : Nat} (F : Fun K "__eq__" "Tree.__eq__" (mT 1) f fd) (T : Tx mg) (c : TrC K C) (ci : TrI K C) (gB : mg "Tree" = some (.ref C)) : FnOk P w K mg base CX0 (k + 1) f fd ["self", "other"] (spEq K C) := by
  refine F.ok scEq (fun vs H Q E h => ?_) (fun cdv A outer s H vs Q E hr h => ?_)
  · obtain ⟨x, dx, la, na, h, ls, ns, y, rfl, _⟩ := h
    rfl
  · obtain ⟨x, dx, la, na, h, ls, ns, y, rfl, ⟨hx, hL, hN⟩, g, q⟩ := h
    refine ⟨_, (pss_cons (ps_if (pt_not (pt_val (pe_callB call_isi (by rfl) T.isi (by decide +kernel) (pa_cons (pv 1) (pa_cons (pe_glob (v := .ref C) (by rfl) gB rfl) pa_nil))))) (pss_one (ps_ret pe_bl)) pss_nil) (pss_one (ps_ret (pe_and (pe_cmpR op_eq (pe_fld (pv 0) rfl) (pe_fld (pv 1) rfl) (nomark _)) (pe_and (pe_cmpR (op_eqD hr.units) (pe_fld (pv 0) rfl) (pe_fld (pv 1) rfl) (nomark _)) (pe_one (pe_cmpR (op_eqD hr.units) (pe_fld (pv 0) rfl) (pe_fld (pv 1) rfl) (nomark _)))))))), ?_⟩
    rcases q with ⟨z, dz, la2, na2, h2, ls2, ns2, rfl, ⟨hz, hL2, hN2⟩, g2, q⟩ | ⟨t, ht, hk, q⟩
    · refine ⟨_, rfl, _, _, _, _, true, rfl, .own C, .base (.ins hz c.cls ci.ha ci.hn ci.htk ci.hm), ci.self, _, rfl, iteF ?_⟩
      refine ⟨_, rfl, _, _, _, _, _, rfl, hx, c.cls, c.na _ (by simp), rfl, _, rfl, _, _, _, _, _, rfl, hz, c.cls, c.na _ (by simp), rfl, rfl, _, rfl, ?_⟩
      have eh : decide (V.int (h : Nat) = V.int (h2 : Nat)) = decide (h = h2) := by
        rw [dec_int, Bool.eq_iff_iff, beq_iff_eq, decide_eq_true_iff]
        omega
      rw [eh]
      by_cases h0 : h = h2
      · rw [decide_eq_true h0]
        refine iteT ?_
        refine ⟨_, rfl, _, _, _, _, _, rfl, hx, c.cls, c.na _ (by simp), rfl, _, rfl, _, _, _, _, _, rfl, hz, c.cls, c.na _ (by simp), rfl, ?_⟩
        refine ⟨_, _, dpLvs hL, dpLvs hL2, shaped_of (nice_lvs g.gl) (Nat.le_trans (dep_lvs ls) (by decide)), shaped_of (nice_lvs g2.gl) (Nat.le_trans (dep_lvs ls2) (by decide)), _, rfl, ?_⟩
        rw [eqv_lvs]
        by_cases h1 : ls = ls2
        · rw [decide_eq_true h1]
          refine iteT ?_
          refine ⟨_, rfl, _, _, _, _, _, rfl, hx, c.cls, c.na _ (by simp), rfl, _, rfl, _, _, _, _, _, rfl, hz, c.cls, c.na _ (by simp), rfl, ?_⟩
          refine ⟨_, _, dpNds hN, dpNds hN2, shaped_of (nice_nds g.gn) (Nat.le_trans (dep_nds ns) (by decide)), shaped_of (nice_nds g2.gn) (Nat.le_trans (dep_nds ns2) (by decide)), ?_⟩
          rw [eqv_nds]
          have e : decide (h = h2 ∧ ls = ls2 ∧ ns = ns2) = decide (ns = ns2) := decide_eq_decide.mpr ⟨fun z => z.2.2, fun z => ⟨h0, h1, z⟩⟩
          rw [e] at q
          exact q
        · rw [decide_eq_false h1]
          rw [decide_eq_false (fun z => h1 z.2.1)] at q
          exact iteF q
      · rw [decide_eq_false h0]
        rw [decide_eq_false (fun z => h0 z.1)] at q
        exact iteF q
    · exact ⟨_, rfl, _, _, _, _, false, rfl, .own C, ht, hk, _, rfl, iteT q⟩
theorem mk_use {σ : St} {i : Nat} {p b : Addr} {h l n : V} {H : Hp} {Q : VK} (e : σ[i]? = some (some (.ref p))) (hp : H p = some (.lst [h, l, n])) (th : Thg b H h) (tl : Thg b H l) (tn : Thg b H n) (hb : badT H h l n = none)
    (q : ∀ H' x dx, Same H H' → H x = none → H' x = some (.ins C dx [("height", h), ("leaves", l), ("nodes", n)]) → Q (.ref x) H') : tMake C (spTree C B) [] E0 (tCons (tOp (rIxL K) (tVar i) (tC (.int 0))) (tCons (tOp (rIxL K) (tVar i) (tC (.int 1))) (tCons (tOp (rIxL K) (tVar i) (tC (.int 2))) tNil))) σ H Q := by
  refine ⟨_, e, p, _, _, h, rfl, rfl, .of hp, atI_nat (j := 0) rfl, _, e, p, _, _, l, rfl, rfl, .of hp, atI_nat (j := 1) rfl, _, e, p, _, _, n, rfl, rfl, .of hp, atI_nat (j := 2) rfl, fun x dx nx ndx ne => ?_⟩
  have s1 : Same H (upd (upd H dx (.own x)) x (.ins C dx [])) := (same_upd ndx).trans (same_upd (by rw [upd_ne (Ne.symm ne)]; exact nx))
  refine ⟨b, x, dx, h, l, n, rfl, upd_same, th.same s1, tl.same s1, tn.same s1, fun hn H' bl hx' => ⟨rfl, ?_⟩, fun z hz H' d sm nd ed => ?_⟩
  · have s3 : Same H H' := fun p o hp => bl p o (by
      intro hm
      rw [List.mem_singleton.mp hm, nx] at hp
      cases hp) (s1 _ _ hp)
    exact q H' x dx s3 nx hx'
  · rw [badT_bl tl tn (.same s1), hb] at hz
    cases hz
def spEqual : Sp := fun vs H Q _ => ∃ (b g p la na : Addr) (h : Nat) (ls : List Lf) (ns : List Nd), vs = [.ref b, .ref p] ∧ BoxAt H b g ∧ p ≠ b ∧ H p = some (.lst [.int (h : Nat), .ref la, .ref na]) ∧ LvsAt H la ls ∧ NdsAt H na ns ∧ DrT h ls ns ∧
  ∀ H', BL [b] H H' → BoxAt H' b g → Q (.bl true) H'
abbrev nEl : List Str := ["box", "parts", "one", "other"]
theorem scEl : FnScope nEl ["box", "parts"] (defScope sEqual) := ⟨rfl, rfl, rfl, by decide +kernel, rfl, by decide +kernel, by decide +kernel⟩
theorem ok_equal {f : Addr} {fd : FuncData} {k : Nat} (F : Fun K "_law_equal" "_law_equal" sEqual f fd) (T : Tx mg) (c : TrC K C) (ci : TrI K C) (R : MkT P w K mg base (k + 5) C B) (eR : EqT P w K mg base (k + 1) C) (cS : Cal P w K mg base (k + 6) "_law_spoilt" ["box", "parts"] spSpo) (cB : Cal P w K mg base (k + 4) "_law_bad" ["parts"] spLbd) : FnOk P w K mg base CX0 (k + 7) f fd ["box", "parts"] spEqual := by
  refine F.ok scEl (fun vs H Q E h => ?_) (fun cdv A outer s H vs Q E hr h => ?_)
  · obtain ⟨b, g, p, la, na, h, ls, ns, rfl, _⟩ := h
    rfl
  · obtain ⟨b, g, p, la, na, h, ls, ns, rfl, hB, npb, hp, hL, hN, d, q⟩ := h
    refine ⟨_, (pss_cons (ps_set (i := 2) scEl.nd rfl (Or.inl rfl) (pe_make R.M R.F (hr.mono (by omega)) (by rfl) R.g R.b .nil pass_no (pa_cons (pe_ix ix_list (pv 1) pe_int (fun _ _ => rfl)) (pa_cons (pe_ix ix_list (pv 1) pe_int (fun _ _ => rfl)) (pa_cons (pe_ix ix_list (pv 1) pe_int (fun _ _ => rfl)) pa_nil))))) (pss_cons (ps_if (pt_or (pt_not (pt_cmpR (op_eqO eR.F (hr.mono (by omega)) eR.hs eR.hf eR.b pass0) (pv 2) (pe_make R.M R.F (hr.mono (by omega)) (by rfl) R.g R.b .nil pass_no (pa_cons (pe_ix ix_list (pv 1) pe_int (fun _ _ => rfl)) (pa_cons (pe_ix ix_list (pv 1) pe_int (fun _ _ => rfl)) (pa_cons (pe_ix ix_list (pv 1) pe_int (fun _ _ => rfl)) pa_nil)))) (nomark _))) (pw_or (pt_cmpR (op_eqO eR.F (hr.mono (by omega)) eR.hs eR.hf eR.b pass0) (pv 2) (pe_tupleOf (by rfl) T.tuple_ (pv 1)) (nomark _)) (pw_or1 (pt_cmpR (op_eqO eR.F (hr.mono (by omega)) eR.hs eR.hf eR.b pass0) (pv 2) (pe_tup (pa_cons (pe_ix ix_list (pv 1) pe_int (fun _ _ => rfl)) (pa_cons (pe_ix ix_list (pv 1) pe_int (fun _ _ => rfl)) (pa_cons (pe_ix ix_list (pv 1) pe_int (fun _ _ => rfl)) pa_nil)))) (nomark _))))) (pss_one (ps_ret pe_bl)) pss_nil) (pss_cons (ps_set (i := 3) scEl.nd rfl (Or.inl rfl) (pe_c cS hr (by omega) (by rfl) (pa_cons (pv 0) (pa_cons (pv 1) pa_nil)))) (pss_cons (ps_if (pt_cmpR op_notN (pe_c cB hr (by omega) (by rfl) (pa_cons (pv 3) pa_nil)) pe_non (nomark _)) (pss_one (ps_ret pe_bl)) pss_nil) (pss_one (ps_ret (pe_cmpR op_eq (pe_cmpR (op_eqO eR.F (hr.mono (by omega)) eR.hs eR.hf eR.b pass0) (pv 2) (pe_make R.M R.F (hr.mono (by omega)) (by rfl) R.g R.b .nil pass_no (pa_cons (pe_ix ix_list (pv 3) pe_int (fun _ _ => rfl)) (pa_cons (pe_ix ix_list (pv 3) pe_int (fun _ _ => rfl)) (pa_cons (pe_ix ix_list (pv 3) pe_int (fun _ _ => rfl)) pa_nil)))) (nomark _)) (pe_cmpR (op_eqD hr.units) (pv 3) (pe_callTy call_list_of (by rfl) T.list_ (by decide +kernel) (pa_cons (pv 1) pa_nil)) (nomark _)) (nomark _)))))))), ?_⟩
    have gd : GTr h ls ns := DrT.gtr (b := b) (la := la) (na := na) (H := H) d
    have hmx : ((h : Nat) : Int) ≤ maxI := by
      have e : (8 : Int) ≤ maxI := by decide
      have := d.h8
      omega
    have th : Thg b H (.int (h : Nat)) := .int _ hmx
    have tl := thg_lvs hB.nt hL d.gl (Nat.le_trans d.l256 (by decide))
    have tn := thg_nds hB.nt hN d
    have ok := drawn_ok hL hN d
    refine seq_set (mk_use (b := b) (i := 1) (σ := [some (.ref b), some (.ref p), none, none]) rfl hp th tl tn ok fun H1 x dx s1 nx hx => ?_)
    have nxb : x ≠ b := hB.nb nx
    have t1 : TreeAt H1 C x dx la na h ls ns := ⟨hx, hL.tk (.same s1), hN.tk (.same s1)⟩
    refine ⟨_, rfl, mk_use (b := b) (i := 1) (σ := [some (.ref b), some (.ref p), some (.ref x), none]) rfl (s1 _ _ hp) (th.same s1) (tl.same s1) (tn.same s1) (by rw [badT_bl tl tn (.same s1)]; exact ok) fun H2 x2 dx2 s2 nx2 hx2 => ?_⟩
    have s12 := s1.trans s2
    have t2 : TreeAt H2 C x dx la na h ls ns := ⟨s2 _ _ hx, hL.tk (.same s12), hN.tk (.same s12)⟩
    have t22 : TreeAt H2 C x2 dx2 la na h ls ns := ⟨hx2, t2.2⟩
    refine ⟨x, dx, _, _, rfl, t2.1, .base (.ins hx2 c.cls ci.ha ci.hn ci.htk ci.hm), eR.nf, x, dx, la, na, h, ls, ns, _, rfl, t2, gd, .inl ⟨x2, dx2, la, na, h, ls, ns, rfl, t22, gd, _, rfl, _, rfl, ?_⟩⟩
    rw [decide_eq_true ⟨rfl, rfl, rfl⟩]
    have hp2 := s12 _ _ hp
    refine iteF ⟨_, rfl, _, rfl, .inl ⟨p, _, rfl, .of hp2, fun t nt => ?_⟩⟩
    have s3 := same_upd (o := HO.tup [.int (h : Nat), .ref la, .ref na]) nt
    have ht3 : (upd H2 t (.tup [.int (h : Nat), .ref la, .ref na])) t = some (.tup [.int (h : Nat), .ref la, .ref na]) := upd_same
    have s13 := s12.trans s3
    generalize upd H2 t (.tup [.int (h : Nat), .ref la, .ref na]) = H3 at *
    have t3 : TreeAt H3 C x dx la na h ls ns := ⟨s3 _ _ t2.1, hL.tk (.same s13), hN.tk (.same s13)⟩
    refine ⟨x, dx, _, _, rfl, t3.1, (ThT.tup ht3).tyX, eR.nt, x, dx, la, na, h, ls, ns, _, rfl, t3, gd, .inr ⟨_, (ThT.tup ht3).tyX, eR.kt, _, rfl, _, rfl, iteF ?_⟩⟩
    have hp3 := s13 _ _ hp
    refine ⟨_, rfl, _, rfl, p, _, _, .int (h : Nat), rfl, rfl, .of hp3, atI_nat (j := 0) rfl, _, rfl, p, _, _, .ref la, rfl, rfl, .of hp3, atI_nat (j := 1) rfl, _, rfl, p, _, _, .ref na, rfl, rfl, .of hp3, atI_nat (j := 2) rfl, by show 3 ≤ sizeLine; decide, fun u nu => ?_⟩
    have s4 := same_upd (o := HO.tup [.int (h : Nat), .ref la, .ref na]) nu
    have hu4 : (upd H3 u (.tup [.int (h : Nat), .ref la, .ref na])) u = some (.tup [.int (h : Nat), .ref la, .ref na]) := upd_same
    have s14 := s13.trans s4
    generalize upd H3 u (.tup [.int (h : Nat), .ref la, .ref na]) = H4 at *
    have t4 : TreeAt H4 C x dx la na h ls ns := ⟨s4 _ _ t3.1, hL.tk (.same s14), hN.tk (.same s14)⟩
    refine ⟨x, dx, _, _, rfl, t4.1, (ThT.tup hu4).tyX, eR.nt, x, dx, la, na, h, ls, ns, _, rfl, t4, gd, .inr ⟨_, (ThT.tup hu4).tyX, eR.kt, _, rfl, _, rfl, iteF ?_⟩⟩
    have hp4 := s14 _ _ hp
    have hB4 := hB.same s14
    refine ⟨_, rfl, _, rfl, b, g, p, la, na, h, ls, ns, rfl, hB4, npb, hp4, t4.2.1, t4.2.2, d, fun H5 f y1 y2 y3 bl5 hB5 nf hf v1 v2 v3 => ?_⟩
    have tk5 := hB4.tk bl5
    have t5 : TreeAt H5 C x dx la na h ls ns := ⟨bl5 _ _ (by simpa using nxb) t4.1, t4.2.1.tk tk5, t4.2.2.tk tk5⟩
    have hp5 := bl5 _ _ (by simpa using npb) hp4
    have bl := (BL.same s14).trans bl5
    refine ⟨_, rfl, b, f, y1, y2, y3, rfl, hf, v1, v2, v3, fun H6 s6 => ⟨rfl, _, rfl, ?_⟩⟩
    rw [nonN]
    cases e : badT H5 y1 y2 y3 with
    | some z => exact iteT (q H6 (bl.trans (.same s6)) (hB5.same s6))
    | none =>
      refine iteF ?_
      obtain ⟨h2, la2, na2, ls2, ns2, rfl, rfl, rfl, hL2, hN2, g2⟩ := good_tree v2 v3 e
      refine ⟨_, rfl, mk_use (b := b) (i := 3) (σ := [some (.ref b), some (.ref p), some (.ref x), some (.ref f)]) rfl (s6 _ _ hf) (v1.same s6) (v2.same s6) (v3.same s6) (by rw [badT_bl v2 v3 (.same s6)]; exact e) fun H7 x3 dx3 s7 nx3 hx3 => ?_⟩
      have s67 := s6.trans s7
      have t7 : TreeAt H7 C x dx la na h ls ns := ⟨s67 _ _ t5.1, t5.2.1.tk (.same s67), t5.2.2.tk (.same s67)⟩
      have t37 : TreeAt H7 C x3 dx3 la2 na2 h2 ls2 ns2 := ⟨hx3, hL2.tk (.same s67), hN2.tk (.same s67)⟩
      refine ⟨x, dx, _, _, rfl, t7.1, .base (.ins hx3 c.cls ci.ha ci.hn ci.htk ci.hm), eR.nf, x, dx, la, na, h, ls, ns, _, rfl, t7, gd, .inl ⟨x3, dx3, la2, na2, h2, ls2, ns2, rfl, t37, g2, _, rfl, ?_⟩⟩
      refine ⟨_, rfl, _, rfl, p, _, rfl, .inl (.of (s67 _ _ hp5)), fun l nl => ?_⟩
      have s8 := same_upd (o := HO.lst [.int (h : Nat), .ref la, .ref na]) nl
      refine ⟨dPt h2 ls2 ns2, dPt h ls ns, dpPt (s8 _ _ (s67 _ _ hf)) (t37.2.1.tk (.same s8)) (t37.2.2.tk (.same s8)), dpPt upd_same (t7.2.1.tk (.same s8)) (t7.2.2.tk (.same s8)), shaped_pt g2, shaped_pt gd, rfl, ?_⟩
      rw [eqv_pt]
      have e9 : decide (h2 = h ∧ ls2 = ls ∧ ns2 = ns) = decide (h = h2 ∧ ls = ls2 ∧ ns = ns2) := decide_eq_decide.mpr ⟨fun z => ⟨z.1.symm, z.2.1.symm, z.2.2.symm⟩, fun z => ⟨z.1.symm, z.2.1.symm, z.2.2.symm⟩⟩
      rw [e9]
      have e10 : ∀ c : Bool, decide (V.bl (if false = true then !c else c) = V.bl c) = true := fun c => decide_eq_true (by cases c <;> rfl)
      rw [e10]
      exact q _ (bl.trans (.same (s67.trans s8))) (hB5.same (s67.trans s8))
end
end L2.My
end
section
set_option Elab.async false
set_option linter.all false
set_option maxRecDepth 100000
set_option maxHeartbeats 4000000
/-! A law that knows that nothing is being shown when it is called: so it may ask for repr. -/
namespace L2.My
open PySem PySem.Spec PyProof.Rows LamX
/-- the promise of a def that is called while nothing is being shown -/
structure FnOkG (P : Program) (w : World) (K : PySem.W.Frag) (mg : Str → Option Value) (base : Heap) (k : Nat) (f : Addr) (fd : FuncData) (ps : List Str) (sp : Sp) : Prop where
  len : ∀ vs H Q E, sp vs H Q E → vs.length = ps.length
  run : ∀ (A : Around) (outer : List Env) (s : Shared) (H : Hp) (args : Args) (us : List Value) (vs : List V) (Q : VK) (E : XK), Room k A → A.guards = some [] → Env0 P w K mg base A outer s H → BindsTo s fd args (ps.zip us) → Vals vs us → sp vs H Q E →
    codeAny (model P w) A (.call (.ref f) args) (CR CX0 outer P w H s Q E) s
theorem fun_okG {P : Program} {w : World} {K : PySem.W.Frag} {mg : Str → Option Value} {base : Heap} {x qual : Str} {st : Stmt} {f : Addr} {fd : FuncData} {N ps : List Str} {k : Nat} {sp : Sp} (F : Fun K x qual st f fd) (S : FnScope N ps (defScope st)) (len : ∀ vs H Q E, sp vs H Q E → vs.length = ps.length)
    (hbody : ∀ (cdv : Value) (A : Around) (outer : List Env) (s : Shared) (H : Hp) (vs : List V) (Q : VK) (E : XK), Room k (A.deeper (envOfC qual (defScope st) s.heap.objs.size f cdv)) → A.guards = some [] → sp vs H Q E →
      ∃ t, PSs (cxOf CX0 P w K mg base N qual (defScope st) f cdv A outer s H E).nox (defBody st) t ∧ t { nx := fun _ H' => Q .non H', rt := Q } (start N vs) H) : FnOkG P w K mg base (k + 1) f fd ps sp := by
  obtain ⟨oc, od, kV, doc, pm, an, cdv, ct, osl, rfl, lk, hcd⟩ := F.ex
  refine ⟨len, fun A outer s H args us vs Q E hr hgd e0 hb r hsp => ?_⟩
  have keep : ∀ b o, base.get? b = some o → s.heap.get? b = some o := fun b o e => (e0.bs b o e).1
  have KX : K.In s.heap := e0.mod.kin.keeps keep
  refine codeAny_call_function hr.depth (KX _ _ lk) rfl S.co S.gen rfl (PySem.W.codeRec_of KX hcd) (hb _ _ _ _ ?_)
  refine wpAny_newFunctionEnv_cells S.kind (fun ⟨n, v⟩ hy => (S.par n (List.of_mem_zip hy).1).imp_right fun q => ⟨q, PySem.W.cellsFrom_some _ _ _ (.inl q)⟩) fun env he s1 z => ?_
  subst he
  refine ⟨(e0.mod.nolimit.keeps keep).keeps z.toInCall.keep, codeAny_func ?_⟩
  obtain ⟨t, ht, hq⟩ := hbody cdv A outer s H vs Q E (hr.deeper _) hgd hsp
  refine wpAny_mono (ht.nox.run [] s1 (start N vs) H _ (inv_start S hr.hd e0 (len _ _ _ _ hsp) r z) hq) (fun fl s' hs => ?_) fun e s' hs => hs
  cases fl with
  | ret u => exact let ⟨v, _, H', J, rv, q⟩ := hs; ⟨v, H', J.os, J.bare, J.base, J.hok, rv, q⟩
  | next => exact let ⟨_, H', J, q⟩ := hs; ⟨V.non, H', J.os, J.bare, J.base, J.hok, rfl, q⟩
  | brk => exact let ⟨_, _, _, q⟩ := hs; q.elim
  | cont => exact let ⟨_, _, _, q⟩ := hs; q.elim
/-- such a law, called by the caller, from a heap in which nothing but its script may be tracked -/
theorem law_callG {P : Program} {w : World} {K : PySem.W.Frag} {mg mb : Str → Option Value} {k : Nat} {fa a : Addr} {fd : FuncData} {x : Str} {sp : Sp} {s₁ : Shared} {vs : List Value} {ns : List Int}
    (KX : K.In s₁.heap) (hns : s₁.heap.Ns mainGlobals mg) (hb : s₁.heap.Ns builtinsNs mb) (hbb : ∀ x : Str, x ≠ "__name__" → mb x = bootBuiltins x) (hlim : s₁.heap.NoLimit) (hg : s₁.gens = #[])
    (ha : s₁.heap.get? a = some { cls := .type "list", data := .seq vs.toArray }) (hi : IntsAre vs ns) (hl : ns.length ≤ sizeLine) (hr : Room k callerA)
    (F : ∀ base : Heap, K.In base → base.Ns mainGlobals mg → FnOkG P w K mg base k fa fd [x] sp) (hbind : ∀ (s : Shared) (u : Value), BindsTo s fd ⟨[u], []⟩ [(x, u)])
    (hsp : ∀ H : Hp, SqL K H a (ns.map V.int) → sp [.ref a] H (fun v _ => v = .bl true) fun _ _ _ => False) :
    codeAny (model P w) callerA (.call (.ref fa) ⟨[.ref a], []⟩) (fun r s' => r = .ok (.ret (.bool true)) ∧ OldK s₁.heap s'.heap ∧ s'.os = s₁.os ∧ AllBare s'.gens) s₁ := by
  have rv := vals_ints hi
  have core : ∀ H : Hp, (∀ b, H b = none ∨ ∃ o xs, H b = some (.frz o (.lst xs))) → SqL K H a (ns.map V.int) → HOk P w H s₁.heap → (∀ b, H b ≠ none → b = a ∧ K.lookup a = none) →
      codeAny (model P w) callerA (.call (.ref fa) ⟨[.ref a], []⟩) (fun r s' => r = .ok (.ret (.bool true)) ∧ OldK s₁.heap s'.heap ∧ s'.os = s₁.os ∧ AllBare s'.gens) s₁ := by
    intro H hO hS hok hA
    -- what is no script is no part of H
    have out : ∀ {b : Addr} {o : Obj}, s₁.heap.get? b = some o → (b = a → K.lookup a = none → False) → (hidT s₁.heap H).get? b = some o := fun {b o} e no => hidT_get e (by
      cases q : H b with
      | none => rfl
      | some u => exact (no (hA b (by rw [q]; simp)).1 (hA b (by rw [q]; simp)).2).elim)
    have nsK : ∀ {b : Addr} {m : Str → Option Value}, s₁.heap.Ns b m → (hidT s₁.heap H).Ns b m := fun {b m} ⟨o, es, ep, e, d, r⟩ => ⟨o, es, ep, out e (fun z _ => by
      rw [z, ha] at e
      cases e
      have d' : Data.seq vs.toArray _ = Data.dict es ep := d
      cases d'), d, r⟩
    have hKb : K.In (hidT s₁.heap H) := fun b o e => out (KX b o e) fun z h => by rw [z, h] at e; cases e
    have hM : L2.Mod K mg (hidT s₁.heap H) := ⟨hKb, nsK hns, ⟨mb, nsK hb, hbb⟩, let ⟨mc, h1, h2⟩ := hlim; ⟨mc, nsK h1, h2⟩⟩
    have e0 : Env0 P w K mg (hidT s₁.heap H) callerA [] s₁ H := ⟨rfl, hM, fun b o e => of_hidT e, Nat.le_of_eq (hidT_size _ _), trivial, fun b hb => absurd (show b ∈ ([] : List Addr) from hb) (by simp), hok, .of_eq hg⟩
    refine codeAny_mono ((F _ hKb (nsK hns)).run callerA [] s₁ H ⟨[.ref a], []⟩ [.ref a] [.ref a] _ _ hr rfl e0 (hbind s₁ (.ref a)) (.cons rfl .nil) (hsp H hS)) fun r s' h => ?_
    cases r with
    | error e => exact False.elim h
    | ok fl =>
      cases fl with
      | next => exact False.elim h
      | brk => exact False.elim h
      | cont => exact False.elim h
      | ret u =>
        obtain ⟨v, H', os, bare, un, hok', r', q⟩ := h
        obtain rfl : v = .bl true := q
        obtain rfl : u = Value.bool true := r'
        refine ⟨rfl, OldK.of_keep fun b o e => ?_, os, bare⟩
        rcases hO b with q | ⟨ob, xs, z⟩
        · exact un.keep b o e q (by intro z; exact absurd (show b ∈ ([] : List Addr) from z) (by simp)) (by simp)
        · obtain ⟨e1, _⟩ := hok b _ z
          obtain ⟨e2, _⟩ := hok' b _ (un.frzs b ob _ z)
          rw [e] at e1
          cases e1
          exact e2
  cases hk : K.lookup a with
  | some o =>
    have e := KX a o hk
    rw [ha] at e
    cases e
    exact core (fun _ => none) (fun _ => .inl rfl) (.inr ⟨_, vs.toArray, _, hk, rfl, rfl, rfl, by rw [List.size_toArray, hi.length]; exact hl, by simpa using rv⟩) (fun b u z => by have z' : (none : Option HO) = some u := z; cases z') fun b z => absurd rfl z
  | none =>
    have yes : ∀ {b : Addr}, b = a → (if b = a then some (HO.frz { cls := .type "list", data := .seq vs.toArray } (.lst (ns.map V.int))) else none) = some (HO.frz { cls := .type "list", data := .seq vs.toArray } (.lst (ns.map V.int))) := fun h => if_pos h
    have no : ∀ {b : Addr}, b ≠ a → (if b = a then some (HO.frz { cls := .type "list", data := .seq vs.toArray } (.lst (ns.map V.int))) else none) = none := fun h => if_neg h
    refine core (fun b => if b = a then some (.frz { cls := .type "list", data := .seq vs.toArray } (.lst (ns.map V.int))) else none) (fun b => ?_) (.inl (.inr ⟨{ cls := .type "list", data := .seq vs.toArray }, yes rfl⟩)) (fun b u z => ?_) fun b z => ⟨Classical.byContradiction fun h => z (no h), hk⟩
    · by_cases h : b = a
      · exact .inr ⟨_, _, yes h⟩
      · exact .inl (no h)
    · by_cases h : b = a
      · have z' := (yes h).symm.trans z
        cases z'
        subst h
        exact ⟨ha, by rw [List.length_map]; exact hl, vs, _, rv, ha⟩
      · have z' := (no h).symm.trans z
        cases z'
theorem walkG {l : PySem.W.OpenLaw} {n k : Nat} {q : Program} {loose : List Str} {XP : (Str → Option Value) → Heap → Prop} {YP : World → Heap → Prop} {d : DefRec} {x : Str} {sp : PySem.W.Frag → Sp}
    (hn : l.most = some n) (hn2 : n ≤ sizeLine) (hdf : d.params.defaults = []) (hr : Room k callerA)
    (F : ∀ (w : World) (mg : Str → Option Value) (fa : Addr) (h : Heap), YP w h → h.Ns mainGlobals mg → mg d.name = some (.ref fa) → ∃ (K : PySem.W.Frag) (fd : FuncData), K.In h ∧ (∀ (s : Shared) (u : Value), BindsTo s fd ⟨[u], []⟩ [(x, u)]) ∧
      ∀ base : Heap, K.In base → base.Ns mainGlobals mg → FnOkG l.prog w K mg base k fa fd [x] (sp K))
    (hsp : ∀ (K : PySem.W.Frag) (H : Hp) (a : Addr) (ns : List Int), SqL K H a (ns.map V.int) → sp K [.ref a] H (fun v _ => v = .bl true) fun _ _ _ => False) :
    PySem.W.WalkO q loose XP YP l.row.toRowW d [] (fun f vs => PySem.call f vs) := by
  refine Att.attach_callB hn hdf fun w s₀ s₁ mg mb fa o pm cd doc a vs ns G Y ho hd hcd hmg hobj hints hlen hbits hg => ?_
  obtain ⟨K, fd, KX, hb, hF⟩ := F w mg fa _ Y G.T.g hmg
  exact law_callG KX G.T.g G.T.b G.T.builtins G.T.nolimit hg hobj hints (Nat.le_trans hlen hn2) hr hF hb fun H hS => hsp K H a ns hS
end L2.My
end
section
set_option Elab.async false
set_option linter.all false
set_option maxRecDepth 100000
set_option maxHeartbeats 4000000
/-! The law. -/
namespace L2.My
open PySem PySem.Spec PyProof.Rows
abbrev sLaw : Stmt := top 45
/-- repr of what is data -/
def rRepr (K : PySem.W.Frag) : List V → Hp → VK → Prop := fun xs H Q => ∃ (a : Addr) (d : PyData), xs = [.ref a] ∧ Dp K H (.ref a) d ∧ Nice d ∧ d.depth ≤ 40 ∧ d.bulk ≤ 306100 ∧ Q (.str d.shown) H
theorem call_repr {X : Cx} (hg : X.A.guards = some []) (hu : X.A.units + 64 < cLine) : CallR X (.builtin "repr") (rRepr X.K) := by
  intro pins s σ H xs us Q I r h
  obtain ⟨a, d, rfl, dp, nd, dd, db, q⟩ := h
  obtain ⟨u, rfl, ru⟩ : ∃ u, us = [u] ∧ RelV (.ref a) u := by
    cases r with
    | cons r1 rs => cases rs; exact ⟨_, rfl, r1⟩
  obtain rfl : u = Value.ref a := ru
  obtain ⟨as, rd⟩ := Dp.reads I d _ _ dp rfl
  exact PySem.repr_of_reads' rd nd.sh (fun z => by rw [nd.hd] at z; cases z) hg (by omega) (fun _ _ e => e) (fun h' u tk hk => ⟨.str d.shown, H, I.kept (t' := tk) hk, ⟨u, rfl⟩, q⟩) (fits_of nd db)
theorem low_str {z : Str} (h : z.cps.toList.all (fun c => decide (c < 128)) = true) : Nice (.str z) := .str fun c hc => of_decide_eq_true (List.all_eq_true.mp h c hc)
theorem bad_three {H : Hp} {h l n : V} {z : Str} (e : badT H h l n = some z) : z = "height" ∨ z = "leaves" ∨ z = "nodes" := by
  unfold badT at e
  split at e
  · split at e
    · split at e
      · cases e
      · cases e; exact .inr (.inr rfl)
    · cases e; exact .inr (.inl rfl)
  · cases e; exact .inl rfl
/-- what is due is data -/
theorem due_dp {b : Addr} {H : Hp} {h l n : V} (th : Thg b H h) (tl : Thg b H l) (tn : Thg b H n) : ∃ d : PyData, Nice d ∧ d.depth ≤ 40 ∧ d.bulk ≤ 306100 ∧ ∀ (K : PySem.W.Frag) (H' : Hp) (t : Addr), Same H H' → H' t = some (.tup (dueL h l n (badT H h l n))) → Dp K H' (.ref t) d := by
  cases e : badT H h l n with
  | none =>
    obtain ⟨hn, la, na, ls, ns, rfl, rfl, rfl, hL, hN, g⟩ := good_tree tl tn e
    refine ⟨.tuple [.str "made", .int (hn : Nat), dLvs ls, dNds ns], .tup (.cons (low_str (by decide +kernel)) (.cons (nice_h g.h8) (.cons (nice_lvs g.gl) (.cons (nice_nds g.gn) .nil)))), ?_, ?_, fun K H' t s ht => ?_⟩
    · have h1 := dep_lvs ls
      have h2 := dep_nds ns
      simp only [PyData.depth, PyData.depthAll]
      omega
    · have h1 := short_tree (ds := []) (ls := ls) (ns := ns) (fun _ _ _ => trivial) g.gl g.gn g.ll g.nl
      have e1 : PyData.bulk (.str "made") ≤ 20 := by decide +kernel
      simp only [PyData.bulk, PyData.bulkAll] at e1 h1 ⊢
      omega
    · exact .tup (.of ht) (.cons (.str _) (.cons (.int _) (.cons (dpLvs (hL.tk (.same s))) (.cons (dpNds (hN.tk (.same s))) .nil))))
  | some z =>
    have hz : Nice (.str z) ∧ PyData.bulk (.str z) ≤ 20 := by
      rcases bad_three e with rfl | rfl | rfl
      · exact ⟨low_str (by decide +kernel), by decide +kernel⟩
      · exact ⟨low_str (by decide +kernel), by decide +kernel⟩
      · exact ⟨low_str (by decide +kernel), by decide +kernel⟩
    refine ⟨.tuple [.str "bad", .str z, .bool false, .bool true], .tup (.cons (low_str (by decide +kernel)) (.cons hz.1 (.cons (.boo _) (.cons (.boo _) .nil)))), ?_, ?_, fun K H' t s ht => ?_⟩
    · simp only [PyData.depth, PyData.depthAll]
      omega
    · have e1 : PyData.bulk (.str "bad") ≤ 20 := by decide +kernel
      have e2 := hz.2
      simp only [PyData.bulk, PyData.bulkAll] at e1 e2 ⊢
      omega
    · exact .tup (.of ht) (.cons (.str _) (.cons (.str _) (.cons (.bl _) (.cons (.bl _) .nil))))
def spLaw (K : PySem.W.Frag) : Sp := fun vs H Q _ => ∃ (a : Addr) (ns : List Int), vs = [.ref a] ∧ SqL K H a (ns.map V.int) ∧ ∀ H', Q (.bl true) H'
section
variable {P : Program} {w : World} {K : PySem.W.Frag} {mg : Str → Option Value} {base : Heap}
abbrev nLaw : List Str := ["script", "box", "turn", "parts", "k", "other"]
theorem scLaw : FnScope nLaw ["script"] (defScope sLaw) := ⟨rfl, rfl, rfl, by decide +kernel, rfl, by decide +kernel, by decide +kernel⟩
theorem ok_law {f : Addr} {fd : FuncData} {k : Nat} (F : Fun K "law" "law" sLaw f fd) (T : Tx mg) (cX : Cal P w K mg base (k + 1) "_law_box" ["script"] (spBox K)) (cR : Cal P w K mg base (k + 5) "_law_tree" ["box", "most"] spTr) (cD : Cal P w K mg base (k + 3) "_law_draw" ["box", "menu"] spDraw) (cO : Cal P w K mg base (k + 7) "_law_told" ["parts"] spDue) (cU : Cal P w K mg base (k + 5) "_law_due" ["parts"] spDue) (cS : Cal P w K mg base (k + 6) "_law_spoilt" ["box", "parts"] spSpo) (cE : Cal P w K mg base (k + 7) "_law_equal" ["box", "parts"] spEqual) : FnOkG P w K mg base (k + 8) f fd ["script"] (spLaw K) := by
  refine fun_okG F scLaw (fun vs H Q E h => ?_) (fun cdv A outer s H vs Q E hr hgd h => ?_)
  · obtain ⟨a, ns, rfl, _⟩ := h
    rfl
  · obtain ⟨a, ns, rfl, hS, q⟩ := h
    have hrp : CallR (cxOf CX0 P w K mg base nLaw "law" (defScope sLaw) f cdv A outer s H E).nox (.builtin "repr") (rRepr K) := call_repr hgd hr.units
    refine ⟨_, (pss_cons (ps_set (i := 1) scLaw.nd rfl (Or.inl rfl) (pe_c cX hr (by omega) (by rfl) (pa_cons (pv 0) pa_nil))) (pss_cons (ps_for PassesOwn.never rfl (pi_range1 (by rfl) T.range_ (pa_cons pe_int pa_nil)) (pg_name (i := 2) scLaw.nd rfl (Or.inl rfl)) (pss_cons (ps_set (i := 3) scLaw.nd rfl (Or.inl rfl) (pe_c cR hr (by omega) (by rfl) (pa_cons (pv 1) (pa_cons (pe_ifExp (pt_cmpR op_eq (pe_c cD hr (by omega) (by rfl) (pa_cons (pv 1) (pa_cons pe_int pa_nil))) pe_int (nomark _)) pe_int pe_int) pa_nil)))) (pss_cons (ps_if (pt_or (pt_cmpR op_ne (pe_callB hrp (by rfl) T.repr_ (by decide +kernel) (pa_cons (pe_c cO hr (by omega) (by rfl) (pa_cons (pv 3) pa_nil)) pa_nil)) (pe_callB hrp (by rfl) T.repr_ (by decide +kernel) (pa_cons (pe_c cU hr (by omega) (by rfl) (pa_cons (pv 3) pa_nil)) pa_nil)) (nomark _)) (pw_or1 (pt_cmpR op_ne (pe_ix ix_tup (pe_c cO hr (by omega) (by rfl) (pa_cons (pv 3) pa_nil)) pe_int (fun _ _ => rfl)) pe_str (nomark _)))) (pss_one (ps_ret pe_bl)) pss_nil) (pss_cons (ps_for PassesOwn.never rfl (pi_range1 (by rfl) T.range_ (pa_cons pe_int pa_nil)) (pg_name (i := 4) scLaw.nd rfl (Or.inl rfl)) (pss_cons (ps_set (i := 5) scLaw.nd rfl (Or.inl rfl) (pe_c cS hr (by omega) (by rfl) (pa_cons (pv 1) (pa_cons (pv 3) pa_nil)))) (pss_one (ps_if (pt_cmpR op_ne (pe_callB hrp (by rfl) T.repr_ (by decide +kernel) (pa_cons (pe_c cO hr (by omega) (by rfl) (pa_cons (pv 5) pa_nil)) pa_nil)) (pe_callB hrp (by rfl) T.repr_ (by decide +kernel) (pa_cons (pe_c cU hr (by omega) (by rfl) (pa_cons (pv 5) pa_nil)) pa_nil)) (nomark _)) (pss_one (ps_ret pe_bl)) pss_nil)))) (pss_one (ps_if (pt_not (pt_val (pe_c cE hr (by omega) (by rfl) (pa_cons (pv 1) (pa_cons (pv 3) pa_nil))))) (pss_one (ps_ret pe_bl)) pss_nil)))))) (pss_one (ps_ret pe_bl)))), ?_⟩
    refine ⟨_, rfl, a, ns, rfl, hS, fun H1 b g s1 hB1 => ?_⟩
    refine ⟨3, rfl, by decide, by decide, ?_⟩
    refine for_it (walk_range (lo := 0)) (fun i σ G => ∃ (y2 y3 y4 y5 : Option V), σ = [some (.ref a), some (.ref b), y2, y3, y4, y5] ∧ BoxAt G b g) ⟨_, _, _, _, rfl, hB1⟩ (fun i σ G _ _ => trivial) ?_ ?_
    · rintro i y σ G G' hi ⟨y2, y3, y4, y5, rfl, hB⟩ ⟨rfl, rfl⟩
      dsimp only [gName]
      refine seq_use (fun σ G3 => ∃ (p la na : Addr) (h : Nat) (ls : List Lf) (ns : List Nd) (y4 y5 : Option V), σ = [some (.ref a), some (.ref b), some (.int (0 + (i : Nat))), some (.ref p), y4, y5] ∧ BoxAt G3 b g ∧ p ≠ b ∧ G3 p = some (.lst [.int (h : Nat), .ref la, .ref na]) ∧ LvsAt G3 la ls ∧ NdsAt G3 na ns ∧ DrT h ls ns) ?_ (fun hrest => ?_)
      · rintro σ G3 ⟨p, la, na, h, ls, ns, y4, y5, rfl, hB3, npb, hp, hL, hN, d⟩
        have hmx : ((h : Nat) : Int) ≤ maxI := by
          have e : (8 : Int) ≤ maxI := by decide
          have := d.h8
          omega
        have th : Thg b G3 (.int (h : Nat)) := .int _ hmx
        have tl := thg_lvs hB3.nt hL d.gl (Nat.le_trans d.l256 (by decide))
        have tn := thg_nds hB3.nt hN d
        have ok := drawn_ok hL hN d
        obtain ⟨dd, nd, dd1, db, hd⟩ := due_dp th tl tn
        refine ⟨_, rfl, b, p, _, _, _, rfl, hp, th, tl, tn, fun G4 t4 s4 ht4 => ⟨t4, dd, rfl, hd K G4 t4 s4 ht4, nd, dd1, db, ?_⟩⟩
        refine ⟨_, rfl, b, p, _, _, _, rfl, s4 _ _ hp, th.same s4, tl.same s4, tn.same s4, fun G5 t5 s5 ht5 => ⟨t5, dd, rfl, hd K G5 t5 (s4.trans s5) (by rw [badT_bl tl tn (.same s4)] at ht5; exact ht5), nd, dd1, db, rfl, _, rfl, ?_⟩⟩
        rw [decide_eq_true rfl]
        have s45 := s4.trans s5
        refine iteF ⟨_, rfl, b, p, _, _, _, rfl, s45 _ _ hp, th.same s45, tl.same s45, tn.same s45, fun G6 t6 s6 ht6 => ?_⟩
        rw [badT_bl tl tn (.same s45), ok] at ht6
        refine ⟨t6, _, _, .str "made", rfl, rfl, .of ht6, atI_nat (j := 0) rfl, rfl, _, rfl, ?_⟩
        rw [decide_eq_true rfl]
        have s46 := s45.trans s6
        refine iteF ⟨5, rfl, by decide, by decide, ?_⟩
        refine for_it (walk_range (lo := 0)) (fun j σ G => ∃ (y4 y5 : Option V), σ = [some (.ref a), some (.ref b), some (.int (0 + (i : Nat))), some (.ref p), y4, y5] ∧ BL [b] G6 G ∧ BoxAt G b g) ⟨_, _, rfl, .refl, hB3.same s46⟩ (fun i σ G _ _ => trivial) ?_ ?_
        · rintro j y σ G7 G8 hj ⟨y4, y5, rfl, bl7, hB7⟩ ⟨rfl, rfl⟩
          have tk7 := (TK.same s46).trans ((hB3.same s46).tk bl7)
          refine ⟨_, rfl, _, rfl, b, g, p, la, na, h, ls, ns, rfl, hB7, npb, bl7 _ _ (by simpa using npb) (s46 _ _ hp), hL.tk tk7, hN.tk tk7, d, fun G9 f x1 x2 x3 bl9 hB9 nf hf v1 v2 v3 => ?_⟩
          obtain ⟨d9, nd9, dd9, db9, hd9⟩ := due_dp v1 v2 v3
          refine ⟨_, rfl, b, f, _, _, _, rfl, hf, v1, v2, v3, fun K1 t1 u1 ht1 => ⟨t1, d9, rfl, hd9 K K1 t1 u1 ht1, nd9, dd9, db9, ?_⟩⟩
          refine ⟨_, rfl, b, f, _, _, _, rfl, u1 _ _ hf, v1.same u1, v2.same u1, v3.same u1, fun K2 t2 u2 ht2 => ⟨t2, d9, rfl, hd9 K K2 t2 (u1.trans u2) (by rw [badT_bl v2 v3 (.same u1)] at ht2; exact ht2), nd9, dd9, db9, rfl, _, rfl, ?_⟩⟩
          rw [decide_eq_true rfl]
          exact iteF ⟨_, _, rfl, bl7.trans (bl9.trans (.same (u1.trans u2))), (hB9.same u1).same u2⟩
        · rintro σ G7 ⟨y4, y5, rfl, bl7, hB7⟩
          have tk7 := (TK.same s46).trans ((hB3.same s46).tk bl7)
          refine ⟨_, rfl, _, rfl, b, g, p, la, na, h, ls, ns, rfl, hB7, npb, bl7 _ _ (by simpa using npb) (s46 _ _ hp), hL.tk tk7, hN.tk tk7, d, fun G8 bl8 hB8 => ⟨_, rfl, iteF ?_⟩⟩
          exact ⟨_, _, _, _, rfl, hB8⟩
      · refine ⟨_, rfl, _, rfl, b, g, 40, rfl, hB, by decide, by decide, fun G2 r bl2 hB2 r0 r1 => ⟨rfl, _, rfl, ?_⟩⟩
        refine ite2 (fun _ => ?_) (fun _ => ?_)
        · exact ⟨b, g, 8, rfl, hB2, by decide, fun H' p la na h ls ns bl hB' np hp hL hN d => hrest _ _ ⟨p, la, na, h, ls, ns, _, _, rfl, hB', hB2.nb np, hp, hL, hN, d⟩⟩
        · exact ⟨b, g, 4, rfl, hB2, by decide, fun H' p la na h ls ns bl hB' np hp hL hN d => hrest _ _ ⟨p, la, na, h, ls, ns, _, _, rfl, hB', hB2.nb np, hp, hL, hN, d⟩⟩
    · rintro σ G ⟨y2, y3, y4, y5, rfl, hB⟩
      exact q G
end
end L2.My
end
section
set_option Elab.async false
set_option linter.all false
set_option maxRecDepth 100000
set_option maxHeartbeats 4000000
/-! A Hook of facts by names, of defs, and of one more Bool. -/
namespace L2.My
open PySem PySem.Spec PyProof.Rows He
abbrev AlY : Type := Al × Bool
def obsY (fa : List Fa) (fn : List FnD) (ex : PySem.W.Frag → Bool) (K : PySem.W.Frag) : AlY := (obsE fa fn K, ex K && fn.all fun d => PySem.W.keepIn K (.ref (fAd K d.at_)))
def valY (fn : List FnD) : AlY := (valE fn, true)
def obsYG (n : Nat) (fa : List Fa) (fn : List FnD) (ex : PySem.W.Frag → Bool) (g : Addr → Option Obj) : AlY := obsY fa fn ex (frG g (asD g n))
structure SaysY (fa : List Fa) (fn : List FnD) (ex : PySem.W.Frag → Bool) (K : PySem.W.Frag) : Prop where
  e : SaysE fa fn K
  more : ex K = true
  kp : ∀ d ∈ fn, PySem.W.keepIn K (.ref (fAd K d.at_)) = true
theorem saysY_of {fa : List Fa} {fn : List FnD} {ex : PySem.W.Frag → Bool} {K : PySem.W.Frag} (e : obsY fa fn ex K = valY fn) : SaysY fa fn ex K := by
  have e1 : obsE fa fn K = valE fn := congrArg (fun z : AlY => z.1) e
  have e2 : (ex K && fn.all fun d => PySem.W.keepIn K (.ref (fAd K d.at_))) = true := congrArg (fun z : AlY => z.2) e
  obtain ⟨h1, h2⟩ := ba e2
  exact ⟨e1, h1, fun d hd => List.all_eq_true.mp h2 d hd⟩
def hookY (n : Nat) (fa : List Fa) (fn : List FnD) (ex : PySem.W.Frag → Bool) : PySem.W.Hook where
  α := AlY
  obs := fun s => obsYG n fa fn ex s.heap.get?
  val := fun _ => valY fn
  says := fun _ h => ∃ K : PySem.W.Frag, K.In h ∧ SaysY fa fn ex K
  of := fun _ _ e => ⟨_, frG_in, saysY_of e⟩
  keeps := fun _ _ _ ⟨K, hK, c⟩ k => ⟨K, PySem.W.Frag.In.keeps hK k, c⟩
theorem obsYG_eq {n : Nat} {fa : List Fa} {fn : List FnD} {ex : PySem.W.Frag → Bool} {g : Addr → Option Obj} {s : Shared} (h : ∀ a, g a = s.heap.get? a) : obsYG n fa fn ex g = (hookY n fa fn ex).obs s := by
  have e : g = s.heap.get? := funext h
  rw [e] <;> rfl
section
variable {fa : List Fa} {fn : List FnD} {ex : PySem.W.Frag → Bool} {K : PySem.W.Frag}
theorem SaysY.fact (c : SaysY fa fn ex K) {f : Fa} (h : f ∈ fa) : f.ok K = true := by
  obtain ⟨i, hi, e⟩ := List.mem_iff_getElem.mp h
  exact c.e.fact i (f := f) (by rw [List.getElem?_eq_getElem hi, e])
/-- a def of the text, by its place in the list -/
theorem SaysY.fun_ (c : SaysY fa fn ex K) {d : FnD} {st : Stmt} (h : d ∈ fn) (hp : d.params = defArgs st) (hb : d.body = defBody st) (hs : d.scope = defScope st) : ∃ fd, Fun K d.name d.qual st (fAd K d.at_) fd := by
  obtain ⟨i, hi, e⟩ := List.mem_iff_getElem.mp h
  obtain ⟨oc, od, osl, kV, doc, pm, an, cdv, ct, lk, hc⟩ := c.e.def_ i (d := d) (by rw [List.getElem?_eq_getElem hi, e])
  rw [hp, hb, hs] at lk
  exact ⟨_, fun_mk lk hc (c.kp d h)⟩
end
/-! ### an own exception class, decided -/
def exB (K : PySem.W.Frag) (C : Addr) : Bool := match K.lookup C with
  | some ⟨.type "type", _, .cls cd, sl⟩ => (match cd.mro, sl.toList with
    | .ref C' :: bm, [_, _, _, _, some (.builtin n), _] => C' == C && n == "ValueError.__new__" && !cd.hasDel && PySem.HandSPX.refsVE bm && cd.hasDict
    | _, _ => false)
  | _ => false
theorem exB_ok {K : PySem.W.Frag} {C : Addr} (q : exB K C = true) : ∃ nm q N bs bm sn sub ab col dd k0 k1 k2 k3 k5, K.lookup C = some (excClassObj nm q C N bs bm true sn sub ab col dd k0 k1 k2 k3 k5 "ValueError.__new__") ∧ PySem.HandSPX.refsVE bm = true := by
  unfold exB at q
  split at q
  · rename_i dd cd sl ho
    split at q
    · rename_i C' bm k0 k1 k2 k3 n k5 hm hs
      simp only [Bool.and_eq_true, beq_iff_eq, Bool.not_eq_true'] at q
      obtain ⟨⟨⟨⟨rfl, rfl⟩, hdel⟩, hr⟩, hd⟩ := q
      obtain ⟨nm, bs, mro, ns, qn, hdct, sn, sub, ab, col, del⟩ := cd
      dsimp only at hm hdel hd
      subst hm hdel hd
      have hsl : sl = #[k0, k1, k2, k3, some (.builtin "ValueError.__new__"), k5] := by
        obtain ⟨l⟩ := sl
        simp only at hs
        rw [hs]
      subst hsl
      exact ⟨nm, qn, ns, bs, bm, sn, sub, ab, col, dd, k0, k1, k2, k3, k5, ho, hr⟩
    · cases q
  · cases q
def eqV (a b : Option Value) : Bool := decide (a = b)
theorem eqV_ok {a b : Option Value} (h : eqV a b = true) : a = b := of_decide_eq_true h
def eqB (a b : Option Bool) : Bool := decide (a = b)
theorem eqB_ok {a b : Option Bool} (h : eqB a b = true) : a = b := of_decide_eq_true h
def xcB (K : PySem.W.Frag) (C : Addr) : Bool := exB K C && (eqO (PySem.W.findIn K (.ref C) "__setattr__") (some (some (.builtin "object.__setattr__"))) && (eqB (PySem.W.subIn K (.ref C) (.type "BaseException")) (some true) && (eqV (PySem.W.typeIn K (.ref C)) (some (.type "type")) && (PySem.W.keepIn K (.ref C) &&
  (eqO (PySem.W.findIn K (.ref C) "__getattribute__") (some (some (.builtin "BaseException.__getattribute__"))) && (eqO (PySem.W.findIn K (.ref C) "__getattr__") (some none) && (eqO (PySem.W.findIn K (.ref C) "__class__") (some (some (.builtin "object.__class__"))) &&
  (eqO (PySem.W.specialIn K (.builtin "object.__class__") "__get__") (some (some (.builtin "getset_descriptor.__get__"))) && (eqB (PySem.W.takesIn K (.builtin "object.__class__")) (some true) && (eqB (PySem.W.mroIn K C (.type "object")) (some true) && PySem.W.hasDictIn K C))))))))))
theorem xcB_ok {K : PySem.W.Frag} {C : Addr} (q : xcB K C = true) : XC K C := by
  obtain ⟨h1, q⟩ := ba q
  obtain ⟨h2, q⟩ := ba q
  obtain ⟨h3, q⟩ := ba q
  obtain ⟨h4, q⟩ := ba q
  obtain ⟨h5, q⟩ := ba q
  obtain ⟨h6, q⟩ := ba q
  obtain ⟨h7, q⟩ := ba q
  obtain ⟨h8, q⟩ := ba q
  obtain ⟨h9, q⟩ := ba q
  obtain ⟨h10, q⟩ := ba q
  obtain ⟨h11, h12⟩ := ba q
  exact ⟨⟨exB_ok h1, eqO_ok h2, eqB_ok h3, eqV_ok h4, h5⟩, eqO_ok h6, eqO_ok h7, eqO_ok h8, eqO_ok h9, eqB_ok h10, eqB_ok h11, h12⟩
end L2.My
end
section
set_option Elab.async false
set_option linter.all false
set_option maxRecDepth 100000
set_option maxHeartbeats 4000000
namespace L2.My
open PySem PySem.Spec PyProof.Rows He
/-! The head of k08: what is looked at. -/
theorem fun_of {K : PySem.W.Frag} {x q : Str} {st : Stmt} {f : Addr} {fd : FuncData} (F : FunD K x q (defArgs st) (defBody st) (defScope st) [] [] f fd) : Fun K x q st f fd := by
  obtain ⟨oc, od, dV, kV, doc, pm, an, cdv, ct, osl, e, l, c, d, _⟩ := F.ex
  rcases d with ⟨_, rfl⟩ | ⟨h, _⟩
  · exact ⟨⟨oc, od, kV, doc, pm, an, cdv, ct, osl, e, l, c⟩, F.kp⟩
  · exact absurd rfl h
def eD (x : Str) (st : Stmt) : DefD := { at_ := (x, none), name := x, qual := x, params := defArgs st, body := defBody st, scope := defScope st }
def eM (C m q : Str) (st : Stmt) : DefD := { at_ := (C, some m), name := m, qual := q, params := defArgs st, body := defBody st, scope := defScope st }
def fnK : List DefD := [eD "is_below" sBelow, eD "is_word" sWord, eD "is_number" sNumb, eD "ascends" sAsc, eD "is_pair" sPair, eD "is_member" sMemb, eD "is_leaves" sLeav, eD "is_node" sNode, eD "is_kept_node" sKept, eD "is_nodes" sNods, eD "_law_mixed" sMixd, eD "_law_box" sBox, eD "_law_refill" sRefill, eD "_law_draw" sDraw, eD "_law_name" sName, eD "_law_lock" sLock, eD "_law_beneath" sBen, eD "_law_tree" sTr, eD "_law_int" sLint, eD "_law_named" sNamd, eD "_law_members" sMbs, eD "_law_node" sLnd, eD "_law_aside" sLas, eD "_law_nodes" sLns, eD "_law_bad" sLbd, eD "_law_odd" sOdd, eD "_law_set" sSet, eD "_law_leaf_spoilt" sLsp, eD "_law_node_spoilt" sNsp, eD "_law_spoilt" sSpo, eD "_law_told" sTold, eD "_law_due" sDue, eD "_law_equal" sEqual, eD "law" sLaw,
  eM "BadTree" "__init__" "BadTree.__init__" sBad, eM "Tree" "__init__" "Tree.__init__" (mT 0), eM "Tree" "__eq__" "Tree.__eq__" (mT 1)]
def gloK : List Str := [("is_below" : Str), ("is_word" : Str), ("is_number" : Str), ("ascends" : Str), ("is_pair" : Str), ("is_member" : Str), ("is_leaves" : Str), ("is_node" : Str), ("is_kept_node" : Str), ("is_nodes" : Str), ("_law_mixed" : Str), ("_law_box" : Str), ("_law_refill" : Str), ("_law_draw" : Str), ("_law_name" : Str), ("_law_lock" : Str), ("_law_beneath" : Str), ("_law_tree" : Str), ("_law_int" : Str), ("_law_named" : Str), ("_law_members" : Str), ("_law_node" : Str), ("_law_aside" : Str), ("_law_nodes" : Str), ("_law_bad" : Str), ("_law_odd" : Str), ("_law_set" : Str), ("_law_leaf_spoilt" : Str), ("_law_node_spoilt" : Str), ("_law_spoilt" : Str), ("_law_told" : Str), ("_law_due" : Str), ("_law_equal" : Str), ("law" : Str), ("Tree" : Str), ("BadTree" : Str), ("PostError" : Str), ("NoLeaf" : Str), ("NoNode" : Str)]
def freeK : List Str := ["isinstance", "int", "bool", "str", "len", "all", "tuple", "list", "range", "reversed", "repr", "ValueError"]
def noaR : List Str := ["height", "leaves", "nodes"]
def restK : List Fa := [.int "MOST_LETTERS" 12, .int "MOST_HEIGHT" 8, .cls "Tree", .mkr "Tree"]
def faK : List Fa := gloK.map .glo ++ (freeK.map .free ++ (restK ++ noaR.map (.noat "Tree")))
def exK1 (K : PySem.W.Frag) : Bool := xcB K (ga K "BadTree") && (eqO (PySem.W.findIn K (.ref (ga K "BadTree")) "part") (some none) && (eqO (PySem.W.findIn K (.ref (ga K "BadTree")) "__init__") (some (some (.ref (ma K (ga K "BadTree") "__init__")))) && (eqV (PySem.W.typeIn K (.ref (ma K (ga K "BadTree") "__init__"))) (some (.type "function")) && (eqB (PySem.W.kitOne K (.ref (ga K "BadTree")) (.ref (ga K "PostError"))) (some true) && (eqB (PySem.W.kitOne K (.ref (ga K "BadTree")) (.type "ValueError")) (some true) && (eqB (PySem.W.exmOne K (.ref (ga K "BadTree")) (.ref (ga K "BadTree"))) (some true) && (eqB (PySem.W.kitOne K (.ref (ga K "BadTree")) (.ref (ga K "NoLeaf"))) (some false) && (eqB (PySem.W.kitOne K (.ref (ga K "BadTree")) (.ref (ga K "NoNode"))) (some false) && (eqO (PySem.W.findIn K (.ref (ga K "Tree")) "__class__") (some (some (.builtin "object.__class__"))) && (eqO (PySem.W.specialIn K (.builtin "object.__class__") "__get__") (some (some (.builtin "getset_descriptor.__get__"))) && (eqB (PySem.W.takesIn K (.builtin "object.__class__")) (some true) && (eqB (PySem.W.mroIn K (ga K "Tree") (.type "object")) (some true) && (eqB (PySem.W.kitOne K (.ref (ga K "Tree")) (.ref (ga K "Tree"))) (some true) && (eqO (PySem.W.findIn K (.ref (ga K "Tree")) "__eq__") (some (some (.ref (ma K (ga K "Tree") "__eq__")))) && (PySem.W.isFn K (.ref (ma K (ga K "Tree") "__eq__")) && (PySem.W.notFirst K (ga K "Tree") (.ref (ga K "Tree")) && (PySem.W.notFirst K (ga K "Tree") (.type "tuple") && (eqB (PySem.W.kitOne K (.type "tuple") (.ref (ga K "Tree"))) (some false)))))))))))))))))))
def tsK : List Tab := []
def tfK : List Defn := []
abbrev RK : PySem.W.OpenRow := PySem.W.OpenLaw.row PySem.Challenge.rw_strangerspost_k08_whole_trees_judged
abbrev hkK : PySem.W.Hook := hookX 6 faK fnK tsK tfK exK1
def obK (s : PySem.W.SharedT) : AlX := obsX 6 faK fnK tsK tfK exK1 (HandSHeadRun.getT s)
theorem obK_eq (s : PySem.W.SharedT) : obK s = hkK.obs s.abs := obsX_eq (HandSHeadRun.getT_eq s)
end L2.My
end
section
set_option Elab.async false
set_option linter.all false
set_option maxRecDepth 100000
set_option maxHeartbeats 0
namespace L2.My
open PySem PySem.Spec PyProof.Rows He
abbrev looA : List PySem.Str := ["PostError", "NoLeaf", "NoNode", "BadTree", "is_below", "MOST_LETTERS", "is_word", "is_number", "ascends", "MOST_HEIGHT", "is_pair", "is_member", "is_leaves", "is_node", "is_kept_node", "is_nodes", "Tree"]
abbrev looB : List PySem.Str := ["_law_mixed", "_law_box", "_law_refill", "_law_draw", "_law_name", "_law_lock", "_law_beneath", "_law_tree", "_law_int", "_law_named", "_law_members", "_law_node", "_law_aside", "_law_nodes", "_law_bad", "_law_odd", "_law_set", "_law_leaf_spoilt", "_law_node_spoilt", "_law_spoilt", "_law_told", "_law_due", "_law_equal"]
theorem lawAt : RK.prog.main.body.length = 46 := by kernel_rfl
theorem law45 : (HandSHeadRun.topDef RK.prog 45).name = ("law" : PySem.Str) := by kernel_rfl
theorem run (w : World) : HandSHeadRun.RunEq RK (PySem.W.view RK.prog [45]) hkK obK 12000 (looA ++ looB) w := by
  intro os
  kernel_rfl
end L2.My
end
section
set_option Elab.async false
set_option linter.all false
set_option maxRecDepth 100000
set_option maxHeartbeats 4000000
namespace L2.My
open PySem PySem.Spec PyProof.Rows He LamX
section
variable {P : Program} {w : World} {K : PySem.W.Frag} {mg : Str → Option Value} {h0 base : Heap}
abbrev SX (w : World) (h : Heap) (K : PySem.W.Frag) : Prop := SaysX faK fnK tsK tfK exK1 w h K
theorem defAt (c : SX w h0 K) (i : Nat) {x : Str} {st : Stmt} (h : fnK[i]? = some (eD x st) := by rfl) : ∃ fd, Fun K x x st (ga K x) fd := by
  obtain ⟨fd, F⟩ := c.t.d.def_ i (d := eD x st) h
  exact ⟨fd, fun_of F⟩
theorem mthAt (c : SX w h0 K) (i : Nat) {C m q : Str} {st : Stmt} (h : fnK[i]? = some (eM C m q st) := by rfl) : ∃ fd, Fun K m q st (ma K (ga K C) m) fd := by
  obtain ⟨fd, F⟩ := c.t.d.def_ i (d := eM C m q st) h
  exact ⟨fd, fun_of F⟩
theorem factM (c : SX w h0 K) {f : Fa} (h : f ∈ faK) : f.ok K = true := c.t.d.facts h
theorem gloM (X : K.In h0) (G : h0.Ns mainGlobals mg) (c : SX w h0 K) {x : Str} (h : x ∈ gloK := by decide +kernel) : mg x = some (.ref (ga K x)) := glo_ok X G (factM c (List.mem_append_left _ (List.mem_map_of_mem h)))
theorem freeM (X : K.In h0) (G : h0.Ns mainGlobals mg) (c : SX w h0 K) {x : Str} (h : x ∈ freeK := by decide +kernel) : mg x = none := free_ok X G (factM c (List.mem_append_right _ (List.mem_append_left _ (List.mem_map_of_mem h))))
theorem restM (c : SX w h0 K) (i : Nat) {f : Fa} (h : restK[i]? = some f := by rfl) : f.ok K = true := factM c (List.mem_append_right _ (List.mem_append_right _ (List.mem_append_left _ (List.mem_of_getElem? h))))
theorem trC (c : SX w h0 K) : TrC K (ga K "Tree") := ⟨cls_ok (restM c 2), fun f hf => noat_ok (factM c (List.mem_append_right _ (List.mem_append_right _ (List.mem_append_right _ (List.mem_map_of_mem (show f ∈ noaR from hf))))))⟩
theorem txt (X : K.In h0) (G : h0.Ns mainGlobals mg) (c : SX w h0 K) : Tx mg :=
  ⟨freeM X G c, freeM X G c, freeM X G c, freeM X G c, freeM X G c, freeM X G c, freeM X G c, freeM X G c, freeM X G c, freeM X G c, freeM X G c, int_ok X G (restM c 0), int_ok X G (restM c 1)⟩
structure MoreK (K : PySem.W.Frag) : Prop where
  x : XC K (ga K "BadTree")
  no : PySem.W.findIn K (.ref (ga K "BadTree")) "part" = some none
  i : PySem.W.findIn K (.ref (ga K "BadTree")) "__init__" = some (some (.ref (ma K (ga K "BadTree") "__init__")))
  t : PySem.W.typeIn K (.ref (ma K (ga K "BadTree") "__init__")) = some (.type "function")
  kP : PySem.W.kitOne K (.ref (ga K "BadTree")) (.ref (ga K "PostError")) = some true
  kV : PySem.W.kitOne K (.ref (ga K "BadTree")) (.type "ValueError") = some true
  te : PySem.W.exmOne K (.ref (ga K "BadTree")) (.ref (ga K "BadTree")) = some true
  kL : PySem.W.kitOne K (.ref (ga K "BadTree")) (.ref (ga K "NoLeaf")) = some false
  kN : PySem.W.kitOne K (.ref (ga K "BadTree")) (.ref (ga K "NoNode")) = some false
  ha : PySem.W.findIn K (.ref (ga K "Tree")) "__class__" = some (some (.builtin "object.__class__"))
  hn : PySem.W.specialIn K (.builtin "object.__class__") "__get__" = some (some (.builtin "getset_descriptor.__get__"))
  htk : PySem.W.takesIn K (.builtin "object.__class__") = some true
  hm : PySem.W.mroIn K (ga K "Tree") (.type "object") = some true
  self : PySem.W.kitOne K (.ref (ga K "Tree")) (.ref (ga K "Tree")) = some true
  hs : PySem.W.findIn K (.ref (ga K "Tree")) "__eq__" = some (some (.ref (ma K (ga K "Tree") "__eq__")))
  hf : PySem.W.isFn K (.ref (ma K (ga K "Tree") "__eq__")) = true
  nf : PySem.W.notFirst K (ga K "Tree") (.ref (ga K "Tree")) = true
  nt : PySem.W.notFirst K (ga K "Tree") (.type "tuple") = true
  kt : PySem.W.kitOne K (.type "tuple") (.ref (ga K "Tree")) = some false
theorem moreK (c : SX w h0 K) : MoreK K := by
  have m := c.more
  unfold exK1 at m
  obtain ⟨m0, m⟩ := ba m
  obtain ⟨m1, m⟩ := ba m
  obtain ⟨m2, m⟩ := ba m
  obtain ⟨m3, m⟩ := ba m
  obtain ⟨m4, m⟩ := ba m
  obtain ⟨m5, m⟩ := ba m
  obtain ⟨m6, m⟩ := ba m
  obtain ⟨m7, m⟩ := ba m
  obtain ⟨m8, m⟩ := ba m
  obtain ⟨m9, m⟩ := ba m
  obtain ⟨m10, m⟩ := ba m
  obtain ⟨m11, m⟩ := ba m
  obtain ⟨m12, m⟩ := ba m
  obtain ⟨m13, m⟩ := ba m
  obtain ⟨m14, m⟩ := ba m
  obtain ⟨m15, m⟩ := ba m
  obtain ⟨m16, m⟩ := ba m
  obtain ⟨m17, m18⟩ := ba m
  exact ⟨xcB_ok m0, eqO_ok m1, eqO_ok m2, eqV_ok m3, eqB_ok m4, eqB_ok m5, eqB_ok m6, eqB_ok m7, eqB_ok m8, eqO_ok m9, eqO_ok m10, eqB_ok m11, eqB_ok m12, eqB_ok m13, eqO_ok m14, m15, m16, m17, eqB_ok m18⟩
def calAt {k : Nat} {x : Str} {ps : List Str} {sp : Sp} {fd : FuncData} {st : Stmt} (X : K.In h0) (G : h0.Ns mainGlobals mg) (c : SX w h0 K) (F : Fun K x x st (ga K x) fd) (H : FnOk P w K mg base CX0 k (ga K x) fd ps sp) (b : Binds K fd ps []) (h : x ∈ gloK := by decide +kernel) : Cal P w K mg base k x ps sp := ⟨ga K x, fd, H, F.kp, gloM X G c h, b⟩
end
end L2.My
end
section
set_option Elab.async false
set_option linter.all false
set_option maxRecDepth 100000
set_option maxHeartbeats 4000000
namespace L2.My
open PySem PySem.Spec PyProof.Rows He LamX
section
variable {P : Program} {w : World} {K : PySem.W.Frag} {mg : Str → Option Value} {h0 : Heap}
theorem facts {f : Addr} (X : K.In h0) (G : h0.Ns mainGlobals mg) (hfa : mg ("law" : Str) = some (.ref f)) (c : SX w h0 K) :
    ∃ fd : FuncData, (∀ (s : Shared) (v : Value), BindsTo s fd ⟨[v], []⟩ [("script", v)]) ∧ ∀ base : Heap, K.In base → base.Ns mainGlobals mg → FnOkG P w K mg base 8 f fd ["script"] (spLaw K) := by
  have e := hfa.symm.trans (gloM X G c (x := "law"))
  cases e
  obtain ⟨fdLaw, FLaw⟩ := defAt c 33 (x := "law") (st := sLaw)
  refine ⟨fdLaw, fun s v => ?_, fun base _ _ => ?_⟩
  · obtain ⟨oc, od, kV, doc, pm, an, cdv, ct, osl, rfl, lk, hcd⟩ := FLaw.ex
    exact .of_eq rfl
  have T := txt X G c
  have tc := trC c
  have m := moreK c
  have ti : TrI K (ga K "Tree") := ⟨m.ha, m.hn, m.htk, m.hm, m.self⟩
  obtain ⟨fdBel, FBel⟩ := defAt c 0 (x := "is_below") (st := sBelow)
  obtain ⟨fdWor, FWor⟩ := defAt c 1 (x := "is_word") (st := sWord)
  obtain ⟨fdNub, FNub⟩ := defAt c 2 (x := "is_number") (st := sNumb)
  obtain ⟨fdAsc, FAsc⟩ := defAt c 3 (x := "ascends") (st := sAsc)
  obtain ⟨fdPai, FPai⟩ := defAt c 4 (x := "is_pair") (st := sPair)
  obtain ⟨fdMem, FMem⟩ := defAt c 5 (x := "is_member") (st := sMemb)
  obtain ⟨fdLea, FLea⟩ := defAt c 6 (x := "is_leaves") (st := sLeav)
  obtain ⟨fdNod, FNod⟩ := defAt c 7 (x := "is_node") (st := sNode)
  obtain ⟨fdKep, FKep⟩ := defAt c 8 (x := "is_kept_node") (st := sKept)
  obtain ⟨fdNds, FNds⟩ := defAt c 9 (x := "is_nodes") (st := sNods)
  obtain ⟨fdMix, FMix⟩ := defAt c 10 (x := "_law_mixed") (st := sMixd)
  obtain ⟨fdBox, FBox⟩ := defAt c 11 (x := "_law_box") (st := sBox)
  obtain ⟨fdRef, FRef⟩ := defAt c 12 (x := "_law_refill") (st := sRefill)
  obtain ⟨fdDra, FDra⟩ := defAt c 13 (x := "_law_draw") (st := sDraw)
  obtain ⟨fdNam, FNam⟩ := defAt c 14 (x := "_law_name") (st := sName)
  obtain ⟨fdLoc, FLoc⟩ := defAt c 15 (x := "_law_lock") (st := sLock)
  obtain ⟨fdBen, FBen⟩ := defAt c 16 (x := "_law_beneath") (st := sBen)
  obtain ⟨fdTre, FTre⟩ := defAt c 17 (x := "_law_tree") (st := sTr)
  obtain ⟨fdInt, FInt⟩ := defAt c 18 (x := "_law_int") (st := sLint)
  obtain ⟨fdNmd, FNmd⟩ := defAt c 19 (x := "_law_named") (st := sNamd)
  obtain ⟨fdMbs, FMbs⟩ := defAt c 20 (x := "_law_members") (st := sMbs)
  obtain ⟨fdLnd, FLnd⟩ := defAt c 21 (x := "_law_node") (st := sLnd)
  obtain ⟨fdLas, FLas⟩ := defAt c 22 (x := "_law_aside") (st := sLas)
  obtain ⟨fdLns, FLns⟩ := defAt c 23 (x := "_law_nodes") (st := sLns)
  obtain ⟨fdLbd, FLbd⟩ := defAt c 24 (x := "_law_bad") (st := sLbd)
  obtain ⟨fdOdd, FOdd⟩ := defAt c 25 (x := "_law_odd") (st := sOdd)
  obtain ⟨fdSet, FSet⟩ := defAt c 26 (x := "_law_set") (st := sSet)
  obtain ⟨fdLsp, FLsp⟩ := defAt c 27 (x := "_law_leaf_spoilt") (st := sLsp)
  obtain ⟨fdNsp, FNsp⟩ := defAt c 28 (x := "_law_node_spoilt") (st := sNsp)
  obtain ⟨fdSpo, FSpo⟩ := defAt c 29 (x := "_law_spoilt") (st := sSpo)
  obtain ⟨fdTol, FTol⟩ := defAt c 30 (x := "_law_told") (st := sTold)
  obtain ⟨fdDue, FDue⟩ := defAt c 31 (x := "_law_due") (st := sDue)
  obtain ⟨fdEqu, FEqu⟩ := defAt c 32 (x := "_law_equal") (st := sEqual)
  obtain ⟨fdBI, FBI⟩ := mthAt c 34 (C := "BadTree") (m := "__init__") (q := "BadTree.__init__") (st := sBad)
  obtain ⟨fdRI, FRI⟩ := mthAt c 35 (C := "Tree") (m := "__init__") (q := "Tree.__init__") (st := mT 0)
  obtain ⟨fdRE, FRE⟩ := mthAt c 36 (C := "Tree") (m := "__eq__") (q := "Tree.__eq__") (st := mT 1)
  have bBel : Binds K fdBel ["bound", "thing"] [] := FBel.binds (ps := ["bound", "thing"]) fun _ _ _ _ _ _ us hl => match us, hl with | [_, _], _ => rfl
  have bWor : Binds K fdWor ["thing"] [] := FWor.binds (ps := ["thing"]) fun _ _ _ _ _ _ us hl => match us, hl with | [_], _ => rfl
  have bNub : Binds K fdNub ["thing"] [] := FNub.binds (ps := ["thing"]) fun _ _ _ _ _ _ us hl => match us, hl with | [_], _ => rfl
  have bAsc : Binds K fdAsc ["things"] [] := FAsc.binds (ps := ["things"]) fun _ _ _ _ _ _ us hl => match us, hl with | [_], _ => rfl
  have bPai : Binds K fdPai ["thing"] [] := FPai.binds (ps := ["thing"]) fun _ _ _ _ _ _ us hl => match us, hl with | [_], _ => rfl
  have bMem : Binds K fdMem ["thing"] [] := FMem.binds (ps := ["thing"]) fun _ _ _ _ _ _ us hl => match us, hl with | [_], _ => rfl
  have bLea : Binds K fdLea ["height", "thing"] [] := FLea.binds (ps := ["height", "thing"]) fun _ _ _ _ _ _ us hl => match us, hl with | [_, _], _ => rfl
  have bNod : Binds K fdNod ["height", "thing"] [] := FNod.binds (ps := ["height", "thing"]) fun _ _ _ _ _ _ us hl => match us, hl with | [_, _], _ => rfl
  have bKep : Binds K fdKep ["height", "leaves", "thing"] [] := FKep.binds (ps := ["height", "leaves", "thing"]) fun _ _ _ _ _ _ us hl => match us, hl with | [_, _, _], _ => rfl
  have bNds : Binds K fdNds ["height", "leaves", "thing"] [] := FNds.binds (ps := ["height", "leaves", "thing"]) fun _ _ _ _ _ _ us hl => match us, hl with | [_, _, _], _ => rfl
  have bMix : Binds K fdMix ["number", "place"] [] := FMix.binds (ps := ["number", "place"]) fun _ _ _ _ _ _ us hl => match us, hl with | [_, _], _ => rfl
  have bBox : Binds K fdBox ["script"] [] := FBox.binds (ps := ["script"]) fun _ _ _ _ _ _ us hl => match us, hl with | [_], _ => rfl
  have bRef : Binds K fdRef ["box"] [] := FRef.binds (ps := ["box"]) fun _ _ _ _ _ _ us hl => match us, hl with | [_], _ => rfl
  have bDra : Binds K fdDra ["box", "menu"] [] := FDra.binds (ps := ["box", "menu"]) fun _ _ _ _ _ _ us hl => match us, hl with | [_, _], _ => rfl
  have bNam : Binds K fdNam ["box"] [] := FNam.binds (ps := ["box"]) fun _ _ _ _ _ _ us hl => match us, hl with | [_], _ => rfl
  have bLoc : Binds K fdLoc ["box"] [] := FLoc.binds (ps := ["box"]) fun _ _ _ _ _ _ us hl => match us, hl with | [_], _ => rfl
  have bBen : Binds K fdBen ["node"] [] := FBen.binds (ps := ["node"]) fun _ _ _ _ _ _ us hl => match us, hl with | [_], _ => rfl
  have bTre : Binds K fdTre ["box", "most"] [] := FTre.binds (ps := ["box", "most"]) fun _ _ _ _ _ _ us hl => match us, hl with | [_, _], _ => rfl
  have bInt : Binds K fdInt ["thing", "least", "most"] [] := FInt.binds (ps := ["thing", "least", "most"]) fun _ _ _ _ _ _ us hl => match us, hl with | [_, _, _], _ => rfl
  have bNmd : Binds K fdNmd ["thing"] [] := FNmd.binds (ps := ["thing"]) fun _ _ _ _ _ _ us hl => match us, hl with | [_], _ => rfl
  have bMbs : Binds K fdMbs ["height", "leaves"] [] := FMbs.binds (ps := ["height", "leaves"]) fun _ _ _ _ _ _ us hl => match us, hl with | [_, _], _ => rfl
  have bLnd : Binds K fdLnd ["thing", "height"] [] := FLnd.binds (ps := ["thing", "height"]) fun _ _ _ _ _ _ us hl => match us, hl with | [_, _], _ => rfl
  have bLas : Binds K fdLas ["thing", "node", "leaves"] [] := FLas.binds (ps := ["thing", "node", "leaves"]) fun _ _ _ _ _ _ us hl => match us, hl with | [_, _, _], _ => rfl
  have bLns : Binds K fdLns ["height", "leaves", "nodes"] [] := FLns.binds (ps := ["height", "leaves", "nodes"]) fun _ _ _ _ _ _ us hl => match us, hl with | [_, _, _], _ => rfl
  have bLbd : Binds K fdLbd ["parts"] [] := FLbd.binds (ps := ["parts"]) fun _ _ _ _ _ _ us hl => match us, hl with | [_], _ => rfl
  have bOdd : Binds K fdOdd ["box"] [] := FOdd.binds (ps := ["box"]) fun _ _ _ _ _ _ us hl => match us, hl with | [_], _ => rfl
  have bSet : Binds K fdSet ["things", "at", "thing"] [] := FSet.binds (ps := ["things", "at", "thing"]) fun _ _ _ _ _ _ us hl => match us, hl with | [_, _, _], _ => rfl
  have bLsp : Binds K fdLsp ["box", "leaves"] [] := FLsp.binds (ps := ["box", "leaves"]) fun _ _ _ _ _ _ us hl => match us, hl with | [_, _], _ => rfl
  have bNsp : Binds K fdNsp ["box", "height", "leaves", "nodes"] [] := FNsp.binds (ps := ["box", "height", "leaves", "nodes"]) fun _ _ _ _ _ _ us hl => match us, hl with | [_, _, _, _], _ => rfl
  have bSpo : Binds K fdSpo ["box", "parts"] [] := FSpo.binds (ps := ["box", "parts"]) fun _ _ _ _ _ _ us hl => match us, hl with | [_, _], _ => rfl
  have bTol : Binds K fdTol ["parts"] [] := FTol.binds (ps := ["parts"]) fun _ _ _ _ _ _ us hl => match us, hl with | [_], _ => rfl
  have bDue : Binds K fdDue ["parts"] [] := FDue.binds (ps := ["parts"]) fun _ _ _ _ _ _ us hl => match us, hl with | [_], _ => rfl
  have bEqu : Binds K fdEqu ["box", "parts"] [] := FEqu.binds (ps := ["box", "parts"]) fun _ _ _ _ _ _ us hl => match us, hl with | [_, _], _ => rfl
  have bBI : Binds K fdBI ["self", "part"] [] := FBI.binds (ps := ["self", "part"]) fun _ _ _ _ _ _ us hl => match us, hl with | [_, _], _ => rfl
  have bRI : Binds K fdRI ["self", "height", "leaves", "nodes"] [] := FRI.binds (ps := ["self", "height", "leaves", "nodes"]) fun _ _ _ _ _ _ us hl => match us, hl with | [_, _, _, _], _ => rfl
  have bRE : Binds K fdRE ["self", "other"] [] := FRE.binds (ps := ["self", "other"]) fun _ _ _ _ _ _ us hl => match us, hl with | [_, _], _ => rfl
  have cB1 : Cal P w K mg base 1 "is_below" ["bound", "thing"] spBelow := calAt X G c FBel (ok_below (k := 0) FBel T) bBel
  have cB2 : Cal P w K mg base 2 "is_below" ["bound", "thing"] spBelow := calAt X G c FBel (ok_below (k := 1) FBel T) bBel
  have cB4 : Cal P w K mg base 4 "is_below" ["bound", "thing"] spBelow := calAt X G c FBel (ok_below (k := 3) FBel T) bBel
  have cW2 : Cal P w K mg base 2 "is_word" ["thing"] spWord := calAt X G c FWor (ok_word (k := 1) FWor T) bWor
  have cU2 : Cal P w K mg base 2 "is_number" ["thing"] spNumb := calAt X G c FNub (ok_numb (k := 1) FNub T) bNub
  have cA2 : Cal P w K mg base 2 "ascends" ["things"] spAsc := calAt X G c FAsc (ok_asc (k := 1) FAsc T) bAsc
  have cA3 : Cal P w K mg base 3 "ascends" ["things"] spAsc := calAt X G c FAsc (ok_asc (k := 2) FAsc T) bAsc
  have cP1 : Cal P w K mg base 1 "is_pair" ["thing"] spPair := calAt X G c FPai (ok_pair (k := 0) FPai T) bPai
  have cP2 : Cal P w K mg base 2 "is_pair" ["thing"] spPair := calAt X G c FPai (ok_pair (k := 1) FPai T) bPai
  have cM3 : Cal P w K mg base 3 "is_member" ["thing"] spMemb := calAt X G c FMem (ok_memb (k := 1) FMem T cP2 cW2 cU2) bMem
  have cL4 : Cal P w K mg base 4 "is_leaves" ["height", "thing"] spLeav := calAt X G c FLea (ok_leav (k := 1) FLea T cM3) bLea
  have cN2 : Cal P w K mg base 2 "is_node" ["height", "thing"] spNode := calAt X G c FNod (ok_node (k := 0) FNod T cP1 cB1) bNod
  have cK3 : Cal P w K mg base 3 "is_kept_node" ["height", "leaves", "thing"] spKept := calAt X G c FKep (ok_kept (k := 0) FKep T cN2 cU2 cB2 cA2) bKep
  have cS4 : Cal P w K mg base 4 "is_nodes" ["height", "leaves", "thing"] spNods := calAt X G c FNds (ok_nods (k := 0) FNds T cK3 cA3) bNds
  have N : BadC P w K mg base (ga K "BadTree") := ⟨m.x, m.no, _, fdBI, m.i, m.t, ok_bad FBI m.x.o m.no, bBI, gloM X G c, ga K "PostError", gloM X G c, freeM X G c, m.kP, m.kV, m.te⟩
  have M : BadD K mg (ga K "BadTree") := ⟨ga K "NoLeaf", gloM X G c, m.kL, ga K "NoNode", gloM X G c, m.kN⟩
  have R : MkT P w K mg base 5 (ga K "Tree") (ga K "BadTree") := ⟨_, fdRI, mkr_ok (restM c 3), ok_tree (k := 0) FRI T tc N cB4 cL4 cS4, gloM X G c, bRI⟩
  have eR : EqT P w K mg base 1 (ga K "Tree") := ⟨_, fdRE, ok_eq (k := 0) FRE T tc ti (gloM X G c), m.hs, m.hf, bRE, m.nf, m.nt, m.kt⟩
  have cX1 : Cal P w K mg base 1 "_law_mixed" ["number", "place"] spMixd := calAt X G c FMix (ok_mixd (k := 0) FMix T) bMix
  have cX2 : Cal P w K mg base 2 "_law_mixed" ["number", "place"] spMixd := calAt X G c FMix (ok_mixd (k := 1) FMix T) bMix
  have cX3 : Cal P w K mg base 3 "_law_mixed" ["number", "place"] spMixd := calAt X G c FMix (ok_mixd (k := 2) FMix T) bMix
  have cX4 : Cal P w K mg base 4 "_law_mixed" ["number", "place"] spMixd := calAt X G c FMix (ok_mixd (k := 3) FMix T) bMix
  have cBx1 : Cal P w K mg base 1 "_law_box" ["script"] (spBox K) := calAt X G c FBox (ok_box (k := 0) FBox T) bBox
  have cRf2 : Cal P w K mg base 2 "_law_refill" ["box"] spRefill := calAt X G c FRef (ok_refill (k := 0) FRef T cX1) bRef
  have cRf3 : Cal P w K mg base 3 "_law_refill" ["box"] spRefill := calAt X G c FRef (ok_refill (k := 1) FRef T cX2) bRef
  have cRf4 : Cal P w K mg base 4 "_law_refill" ["box"] spRefill := calAt X G c FRef (ok_refill (k := 2) FRef T cX3) bRef
  have cD3 : Cal P w K mg base 3 "_law_draw" ["box", "menu"] spDraw := calAt X G c FDra (ok_draw (k := 0) FDra T cX2 cRf2) bDra
  have cD4 : Cal P w K mg base 4 "_law_draw" ["box", "menu"] spDraw := calAt X G c FDra (ok_draw (k := 1) FDra T cX3 cRf3) bDra
  have cD5 : Cal P w K mg base 5 "_law_draw" ["box", "menu"] spDraw := calAt X G c FDra (ok_draw (k := 2) FDra T cX4 cRf4) bDra
  have cNm4 : Cal P w K mg base 4 "_law_name" ["box"] spName := calAt X G c FNam (ok_name (k := 0) FNam T cD3) bNam
  have cLo4 : Cal P w K mg base 4 "_law_lock" ["box"] spLock := calAt X G c FLoc (ok_lock (k := 0) FLoc T cD3) bLoc
  have cBn1 : Cal P w K mg base 1 "_law_beneath" ["node"] spBen := calAt X G c FBen (ok_ben (k := 0) FBen T) bBen
  have cBn2 : Cal P w K mg base 2 "_law_beneath" ["node"] spBen := calAt X G c FBen (ok_ben (k := 1) FBen T) bBen
  have cBn4 : Cal P w K mg base 4 "_law_beneath" ["node"] spBen := calAt X G c FBen (ok_ben (k := 3) FBen T) bBen
  have cTr5 : Cal P w K mg base 5 "_law_tree" ["box", "most"] spTr := calAt X G c FTre (ok_ltree (k := 0) FTre T cD4 cBn4 cNm4 cLo4) bTre
  have cI1 : Cal P w K mg base 1 "_law_int" ["thing", "least", "most"] spLint := calAt X G c FInt (ok_lint (k := 0) FInt T) bInt
  have cI2 : Cal P w K mg base 2 "_law_int" ["thing", "least", "most"] spLint := calAt X G c FInt (ok_lint (k := 1) FInt T) bInt
  have cI3 : Cal P w K mg base 3 "_law_int" ["thing", "least", "most"] spLint := calAt X G c FInt (ok_lint (k := 2) FInt T) bInt
  have cNa2 : Cal P w K mg base 2 "_law_named" ["thing"] spWord := calAt X G c FNmd (ok_namd (k := 1) FNmd T) bNmd
  have cMb3 : Cal P w K mg base 3 "_law_members" ["height", "leaves"] spMbs := calAt X G c FMbs (ok_mbs (k := 1) FMbs T cBn2 cNa2 cI2) bMbs
  have cLd2 : Cal P w K mg base 2 "_law_node" ["thing", "height"] spLnd := calAt X G c FLnd (ok_lnd (k := 0) FLnd T cBn1 cI1) bLnd
  have cLa2 : Cal P w K mg base 2 "_law_aside" ["thing", "node", "leaves"] spLas := calAt X G c FLas (ok_las (k := 0) FLas T cBn1 cI1) bLas
  have cLn3 : Cal P w K mg base 3 "_law_nodes" ["height", "leaves", "nodes"] spLns := calAt X G c FLns (ok_lns (k := 0) FLns T cLd2 cI2 cLa2) bLns
  have cLb4 : Cal P w K mg base 4 "_law_bad" ["parts"] spLbd := calAt X G c FLbd (ok_lbd (k := 0) FLbd T cI3 cMb3 cLn3) bLbd
  have cO4 : Cal P w K mg base 4 "_law_odd" ["box"] spOdd := calAt X G c FOdd (ok_odd (k := 0) FOdd T cD3) bOdd
  have cO5 : Cal P w K mg base 5 "_law_odd" ["box"] spOdd := calAt X G c FOdd (ok_odd (k := 1) FOdd T cD4) bOdd
  have cSt4 : Cal P w K mg base 4 "_law_set" ["things", "at", "thing"] spSet := calAt X G c FSet (ok_set (k := 3) FSet T) bSet
  have cLs5 : Cal P w K mg base 5 "_law_leaf_spoilt" ["box", "leaves"] spLsp := calAt X G c FLsp (ok_lsp (k := 0) FLsp T cD4 cSt4 cO4) bLsp
  have cNs5 : Cal P w K mg base 5 "_law_node_spoilt" ["box", "height", "leaves", "nodes"] spNsp := calAt X G c FNsp (ok_nsp (k := 0) FNsp T cD4 cSt4 cO4) bNsp
  have cSp6 : Cal P w K mg base 6 "_law_spoilt" ["box", "parts"] spSpo := calAt X G c FSpo (ok_spo (k := 0) FSpo T cD5 cO5 cLs5 cNs5) bSpo
  have cTo7 : Cal P w K mg base 7 "_law_told" ["parts"] spDue := calAt X G c FTol (ok_told (k := 0) FTol T tc N M R) bTol
  have cDu5 : Cal P w K mg base 5 "_law_due" ["parts"] spDue := calAt X G c FDue (ok_due (k := 0) FDue T cLb4) bDue
  have cEq7 : Cal P w K mg base 7 "_law_equal" ["box", "parts"] spEqual := calAt X G c FEqu (ok_equal (k := 0) FEqu T tc ti R eR cSp6 cLb4) bEqu
  exact ok_law (k := 0) FLaw T cBx1 cTr5 cD3 cTo7 cDu5 cSp6 cEq7
end
end L2.My
end
set_option Elab.async false
set_option linter.all false
set_option maxRecDepth 100000
set_option maxHeartbeats 0
open PySem PySem.W PySem.Calls PyProof.Rows
theorem PySem.Challenge.cw_strangerspost_k08_whole_trees_judged_holds : PySem.Challenge.rw_strangerspost_k08_whole_trees_judged.Holds := by
  w_on; o_law
  refine HandSHeadRun.head_any (r := OpenLaw.row PySem.Challenge.rw_strangerspost_k08_whole_trees_judged) (q := view (OpenLaw.row PySem.Challenge.rw_strangerspost_k08_whole_trees_judged).prog [45]) (H := L2.My.hkK) (ob := L2.My.obK) (M := 12000) (loose := L2.My.looA ++ L2.My.looB) (d := HandSHeadRun.topDef (OpenLaw.row PySem.Challenge.rw_strangerspost_k08_whole_trees_judged).prog 45) (kwd := []) L2.My.obK_eq
    (by kernel_rfl) (fun s => by kernel_rfl) L2.My.run (by kernel_rfl) (by kernel_rfl) (by kernel_rfl) (by rfl) (by first | assumption | decide +kernel) (by decide +kernel) ⟨rfl, rfl, rfl, rfl, rfl, by decide +kernel⟩ ?hw ?hc
  case hw => w_witness2
  case hc =>
    refine L2.My.walkG (l := PySem.Challenge.rw_strangerspost_k08_whole_trees_judged) (n := 63) (k := 8) (x := "script") (sp := L2.My.spLaw) rfl (by decide) (by kernel_rfl) ⟨rfl, by decide, by decide⟩ ?F (fun K H a ns hS => ⟨a, ns, rfl, hS, fun _ => rfl⟩)
    intro w mg fa h Y G hmg0
    obtain ⟨K, KX, c⟩ := Y
    have hmg : mg ("law" : PySem.Str) = some (.ref fa) := by
      have e : (HandSHeadRun.topDef (OpenLaw.row PySem.Challenge.rw_strangerspost_k08_whole_trees_judged).prog 45).name = ("law" : PySem.Str) := by kernel_rfl
      rw [← e]
      exact hmg0
    obtain ⟨fd, hb, hF⟩ := L2.My.facts (P := (PySem.Challenge.rw_strangerspost_k08_whole_trees_judged).prog) (w := w) KX G hmg c
    exact ⟨K, fd, KX, hb, hF⟩

