import PyProof.Rows.All
import Wide.All
import OpenK.AllK
import Wide.FinOn
import HandS.ForMost
import HandS.Exc
import HandS.Walk
import HandS.Comp
import HandS.Style
import HandS.Deep
import HandS.DictComp
import HandS.SetKeys
import HandS.TupLen
import HandS.TupAny
import HandS.IsInst
import HandS.Sort
import HandS.SortRule
import HandS.DictTup
import HandS.Conv
import HandS.WideBits
import KE.GoesEnum
import KE.GoesZip
import KE.GoesMore
import HandS.SetFor
import HandS.SortKw
import HandS.ExcValue
import KE.KExcIs
import HandS.ExcInit
import PyProof.DictMoreH
import KE.KDictKeyed
import KE.KBits
import HandS.WordsExc
import HandS.Steps
import HandS.TupSets
import KE.KSortTupAny
import HandS.Small
import HandS.TupMul
import HandS.Zip
import KE.KRevSl
import HandS.OwnEq
import HandS.More
import HandS.HeadHook4
import HandS.HeadEnd
import HandS.Head2
import HandS.HeadHook3
import HandS.NestedK
import HandS.HeadWalk
import PySem.Challenge.RW_strangerspost_k50_whole_rules_judged
section
set_option Elab.async false
set_option linter.all false
set_option maxRecDepth 100000
set_option maxHeartbeats 4000000
/-! Own exceptions as values: made by an __init__ that is walked as a def, asked by isinstance, their fields read. -/
namespace L2.My
open PySem PySem.Spec PyProof.Rows

/-- the facts of an own exception class, beside OexC -/
structure XC (K : PySem.W.Frag) (C : Addr) : Prop where
  o : OexC K C
  hga : PySem.W.findIn K (.ref C) "__getattribute__" = some (some (.builtin "BaseException.__getattribute__"))
  hgt : PySem.W.findIn K (.ref C) "__getattr__" = some none
  ha : PySem.W.findIn K (.ref C) "__class__" = some (some (.builtin "object.__class__"))
  hn : PySem.W.specialIn K (.builtin "object.__class__") "__get__" = some (some (.builtin "getset_descriptor.__get__"))
  ht : PySem.W.takesIn K (.builtin "object.__class__") = some true
  hm : PySem.W.mroIn K C (.type "object") = some true
  hd : PySem.W.hasDictIn K C = true

/-- C(e, ..): a new exception object, then __init__; it stays tracked -/
def tMkX (C : Addr) (sp : Sp) (dvs : List V) (ta : TA) : TE := fun σ H Q => ta σ H fun vs H1 => vs.length ≤ 1000 ∧ ∀ a, H1 a = none → sp (.ref a :: (vs ++ dvs)) (upd H1 a (exo a C none))
  (fun v H2 => v = .non ∧ Q (.ref a) H2) (fun _ _ _ => False)
section
variable {X : Cx} {CX : CXT} {k : Nat} {fI C : Addr} {fd : FuncData} {ps : List Str} {sp : Sp} {dvs : List V} {ds : List Value} {x : Str} {p pos : Pos} {e : Expr} {es : List Expr} {ta : TA}
theorem run_mkx {pins : List (Addr × Obj)} {σ : St} {H : Hp} {s : Shared} {Q : VK} {us : List Value} {vs : List V} (T : OexC X.K C) (iC : PySem.W.findIn X.K (.ref C) "__init__" = some (some (.ref fI))) (tI : PySem.W.typeIn X.K (.ref fI) = some (.type "function"))
    (F1 : FnOk X.prog X.w X.K X.mg X.base CX k fI fd ps sp) (hr : Room (k + 1) X.A) (hb : Binds X.K fd ps ds) (hd : Vals dvs ds) (hx : Passes CX X (fun _ _ _ => False)) (I : Inv X pins σ H s) (r1 : Vals vs us) (hz : vs.length ≤ 1000)
    (h : ∀ a, H a = none → sp (.ref a :: (vs ++ dvs)) (upd H a (exo a C none)) (fun v H2 => v = .non ∧ Q (.ref a) H2) (fun _ _ _ => False)) :
    wpAny (model X.prog X.w) X.A (call (.ref C) us) (EP X pins σ Q) X.xe s := by
  obtain ⟨nm, q, N, bs, bm, sn, sub, ab, col, dd, k0, k1, k2, k3, k5, hC, hbm⟩ := T.cls
  obtain ⟨hp, g, dr, tk, os⟩ := s
  have hsz : hp.objs.size ≤ hp.objs.size + 1 := Nat.le_succ _
  have hn : H (hp.objs.size + 1) = none := I.hok.fresh hsz
  have hq := h (hp.objs.size + 1) hn
  have kk : ∀ b o, hp.get? b = some o → ((hp.push (PySem.W.kdv_tup us)).push (PySem.HandSPX.excO C hp.objs.size)).get? b = some o := fun b o e => Heap.get?_push_of_some _ (Heap.get?_push_of_some _ e)
  have hget : ((hp.push (PySem.W.kdv_tup us)).push (PySem.HandSPX.excO C hp.objs.size)).get? (hp.objs.size + 1) = some (PySem.HandSPX.excO C hp.objs.size) := by heap_get
  have I2 : Inv X pins σ (upd H (hp.objs.size + 1) (exo (hp.objs.size + 1) C none)) ⟨(hp.push (PySem.W.kdv_tup us)).push (PySem.HandSPX.excO C hp.objs.size), g, dr, tk, os⟩ :=
    I.laid (t' := tk) (a := hp.objs.size + 1) (o := exo (hp.objs.size + 1) C none) (h' := (hp.push (PySem.W.kdv_tup us)).push (PySem.HandSPX.excO C hp.objs.size)) kk hsz (exo_ok hget)
  have r2 : Vals (V.ref (hp.objs.size + 1) :: (vs ++ dvs)) (Value.ref (hp.objs.size + 1) :: (us ++ ds)) := .cons rfl (r1.append hd)
  have hl : (Value.ref (hp.objs.size + 1) :: us ++ ds).length = ps.length := by
    have e := r2.length
    rw [F1.len _ _ _ _ hq] at e
    exact e.symm
  have hus : us.length ≤ sizeLine := by
    rw [← Paired.length r1, sizeLine_eq]
    omega
  refine wpAny_call (PySem.HandSPX.call_own F.excBase_ValueError (fun Y => PySem.HandSPX.refsVE_contains Y bm hbm) (I.kIn _ _ hC) (PySem.W.looks_findIn I.kIn iC) (fun self => PySem.W.bind_fn I.kIn self tI) hus
    (codeAny_mono (F1.run _ X.stack _ _ ⟨Value.ref (hp.objs.size + 1) :: us, []⟩ (Value.ref (hp.objs.size + 1) :: (us ++ ds)) _ _ (fun _ _ _ => False) (hr.make C us []) (I2.env0.make C us []) (hb _ (Value.ref (hp.objs.size + 1) :: us) I2.kIn hl) r2 hq) fun r s' hq' => ?_))
  cases r with
  | error er => exact hx pins σ _ _ er s' I2 hq'
  | ok fl =>
    cases fl with
    | ret u =>
      obtain ⟨v, H', I3, rv, ev, q3⟩ := I2.after hq'
      subst ev
      exact ⟨rv, ⟨V.ref (hp.objs.size + 1), H', I3, rfl, q3⟩⟩
    | next => exact False.elim hq'
    | brk => exact False.elim hq'
    | cont => exact False.elim hq'
theorem pe_mkx (T : OexC X.K C) (iC : PySem.W.findIn X.K (.ref C) "__init__" = some (some (.ref fI))) (tI : PySem.W.typeIn X.K (.ref fI) = some (.type "function"))
    (F1 : FnOk X.prog X.w X.K X.mg X.base CX k fI fd ps sp) (hr : Room (k + 1) X.A) (hb : Binds X.K fd ps ds) (hd : Vals dvs ds) (hx : Passes CX X (fun _ _ _ => False)) (hg : Gl X x) (hm : X.mg x = some (.ref C)) (ha : PA X (e :: es) ta)
    (hdb : (x == ("__debug__" : Str)) = false := by decide) (he : starEach (e :: es) X.env = (false, eval e X.env) :: starEach es X.env := by rfl) (hpl : (backTo pos (starEach es X.env)).any (·.1) = false := by rfl) :
    PE X (.Call (.Name x p) (e :: es) [] pos) (tMkX C sp dvs ta) := by
  refine ⟨fun pins s σ H Q I h => ?_⟩
  refine wpAny_Call_Name_kw (ld_glob I hg hm ?_ hdb)
  refine PySem.W.callWith_K (h₀ := X.base) I.ok.mod.kin T.kC (thn (ha.run pos pins s σ H _ I h) fun us s1 ⟨vs, H1, I1, r1, hz, q1⟩ => ⟨I1.kIn, ?_⟩) he hpl
  exact run_mkx T iC tI F1 hr hb hd hx I1 r1 hz q1
theorem pe_mkx0 (T : OexC X.K C) (iC : PySem.W.findIn X.K (.ref C) "__init__" = some (some (.ref fI))) (tI : PySem.W.typeIn X.K (.ref fI) = some (.type "function"))
    (F1 : FnOk X.prog X.w X.K X.mg X.base CX k fI fd ps sp) (hr : Room (k + 1) X.A) (hb : Binds X.K fd ps ds) (hd : Vals dvs ds) (hx : Passes CX X (fun _ _ _ => False)) (hg : Gl X x) (hm : X.mg x = some (.ref C))
    (hdb : (x == ("__debug__" : Str)) = false := by decide) :
    PE X (.Call (.Name x p) [] [] pos) (tMkX C sp dvs tNil) := by
  refine ⟨fun pins s σ H Q I h => ?_⟩
  refine wpAny_Call_Name_kw (ld_glob I hg hm ?_ hdb)
  exact PySem.W.callWith_K0 I.kIn T.kC (run_mkx (us := []) T iC tI F1 hr hb hd hx I .nil h.1 h.2)
end

/-! ### an exception that stands: with its dict, or with none -/
/-- at a stands an exception of the class at C, its dict (if any) tracked -/
def ErrAt (H : Hp) (a C : Addr) : Prop := ∃ d : Option Addr, H a = some (exo a C d) ∧ ∀ dx, d = some dx → ∃ fs, H dx = some (exd dx fs)
theorem ErrAt.same {H H' : Hp} {a C : Addr} (h : ErrAt H a C) (s : Same H H') : ErrAt H' a C := by
  obtain ⟨d, h1, h2⟩ := h
  exact ⟨d, s _ _ h1, fun dx e => by
    obtain ⟨fs, q⟩ := h2 dx e
    exact ⟨fs, s _ _ q⟩⟩
section
variable {X : Cx} {pins : List (Addr × Obj)} {σ : St} {H : Hp} {s : Shared}
theorem XC.cl {K : PySem.W.Frag} {C : Addr} (T : XC K C) : (PySem.W.clsIn K C).isSome = true := by
  obtain ⟨cd, h, _⟩ := PySem.W.any_some T.hd
  rw [h]
  rfl
theorem ErrAt.inst {a C : Addr} (I : Inv X pins σ H s) (h : ErrAt H a C) : ∃ ox od, PySem.W.InstAt s.heap a ox C od := by
  obtain ⟨d, h1, h2⟩ := h
  obtain ⟨t1, ho⟩ := exo_at I.hok h1
  cases d with
  | none => exact ⟨_, none, ho, rfl, rfl, trivial⟩
  | some dx =>
    obtain ⟨fs, q⟩ := h2 dx rfl
    obtain ⟨mA, ⟨oD, _, _, hoD, _⟩, _⟩ := exd_at I.hok q
    exact ⟨_, some oD, ho, rfl, rfl, hoD⟩
/-- isinstance(e, c) of a standing exception -/
def rIsX (K : PySem.W.Frag) : List V → Hp → VK → Prop := fun xs H Q => ∃ (a C : Addr) (c : V) (u : Value) (b : Bool), xs = [.ref a, c] ∧ ErrAt H a C ∧ XC K C ∧ ClsV c u ∧ PySem.W.kitOne K (.ref C) u = some b ∧ Q (.bl b) H
theorem call_isX : CallR X (.builtin "isinstance") (rIsX X.K) := by
  intro pins s σ H xs us Q I r h
  obtain ⟨a, C, c, u, b, rfl, hE, T, k, e, q⟩ := h
  obtain ⟨u1, u2, rfl, r1, r2⟩ := vals2 r
  have e2 := k.eq r2
  subst e2
  cases (show u1 = Value.ref a from r1)
  obtain ⟨ox, od, J⟩ := hE.inst I
  exact PySem.W.kia_one (PySem.W.kitx_exc T.cl T.hga T.hgt T.o.exC T.ha T.hn T.ht T.hm) I.kIn J e (fun z => nomatch z) fun tk => ⟨.bl b, H, I.tok tk, rfl, q⟩
/-- e.f of a standing exception -/
def tXfv (K : PySem.W.Frag) (f : Str) (te : TE) : TE := fun σ H Q => te σ H fun x H1 => ∃ (a C dx : Addr) (fs : List (Str × V)) (v : V), x = .ref a ∧ XC K C ∧ PySem.W.findIn K (.ref C) f = some none ∧ H1 a = some (exo a C (some dx)) ∧ H1 dx = some (exd dx fs) ∧ fs.lookup f = some v ∧ Q v H1
theorem pe_xfv {e : Expr} {te : TE} {pos : Pos} {n : Str} (he : PE X e te) (hb : attributeBase e n X.env (eval e X.env) = eval e X.env := by rfl) : PE X (.Attribute e n pos) (tXfv X.K n te) := by
  refine ⟨fun pins s σ H Q I h => ?_⟩
  refine attr_of hb (thn (he.run pins s σ H _ I h) fun u s1 hh => ?_)
  obtain ⟨x, H1, I1, rx, a, C, dx, fs, v, ex, T, hno, ea, ed, l, q⟩ := hh
  subst ex
  obtain rfl : u = Value.ref a := rx
  obtain ⟨t1, ho⟩ := exo_at I1.hok ea
  obtain ⟨mA, hns, hr⟩ := exd_at I1.hok ed
  obtain ⟨od, hod, hl⟩ := lookIn_ns hns
  obtain ⟨u, hu, ru⟩ := RelO.some_of (v := v) (o := mA n) (by rw [← l]; exact hr n)
  have J : PySem.W.InstAt s1.heap a _ C (some od) := ⟨ho, rfl, rfl, hod⟩
  exact HandSPX.exc_get I1.kIn J T.hga T.hgt T.o.exC (PySem.W.findObj_own T.hd hno rfl (by rw [hl, hu])) (handed_of ru) ⟨v, H1, I1.tok _, ru, q⟩
end
end L2.My
end
section
set_option Elab.async false
set_option linter.all false
set_option maxRecDepth 100000
set_option maxHeartbeats 4000000
/-! Small rules of our own. -/
namespace L2.My
open PySem PySem.Spec PyProof.Rows
section
variable {X : Cx}
theorem pt_and {a b : Expr} {rest : List Expr} {pos : Pos} {tA tB : TT} (ha : PT X a tA) (hb : PW X (.BoolOp .And (b :: rest) pos) tB) : PT X (.BoolOp .And (a :: b :: rest) pos) (tAnd tA tB) := (pw_and ha hb).pt
theorem pt_or {a b : Expr} {rest : List Expr} {pos : Pos} {tA tB : TT} (ha : PT X a tA) (hb : PW X (.BoolOp .Or (b :: rest) pos) tB) : PT X (.BoolOp .Or (a :: b :: rest) pos) (tOr tA tB) := (pw_or ha hb).pt
theorem op_le_str : OpR X (compareOp .LtE) (fun x y H Q => ∃ i j, x = .str i ∧ y = .str j ∧ Q (.bl (!decide (j.cps.toList < i.cps.toList))) H) := by
  intro pins s σ H x y v u Q I rx ry h
  obtain ⟨i, j, rfl, rfl, q⟩ := h
  obtain ⟨t, rfl⟩ := rx
  obtain ⟨t', rfl⟩ := ry
  exact P.le_str (fin_bl I q (by simp))
/-- d in a tuple of data -/
def rInTD (K : PySem.W.Frag) : R2 := fun x y H Q => ∃ d ds, Dp K H x d ∧ Dp K H y (.tuple ds) ∧ SeqAt.shaped d = true ∧ SeqAt.shaped (.tuple ds) = true ∧ Q (.bl (ds.any fun z => PyData.eqv z d)) H
def rNotInTD (K : PySem.W.Frag) : R2 := fun x y H Q => ∃ d ds, Dp K H x d ∧ Dp K H y (.tuple ds) ∧ SeqAt.shaped d = true ∧ SeqAt.shaped (.tuple ds) = true ∧ Q (.bl (!ds.any fun z => PyData.eqv z d)) H
theorem op_inTD (hu : X.A.units + 65 < cLine) : OpR X (compareOp .In) (rInTD X.K) := by
  intro pins s σ H x y v u Q I rx ry h
  obtain ⟨d, ds, hd, he, sd, se, q⟩ := h
  obtain ⟨as, r1⟩ := Dp.reads I d x v hd rx
  obtain ⟨bs, r2⟩ := Dp.reads I (.tuple ds) y u he ry
  exact SeqAt.in_tuple_reads r2 r1 (SeqAt.canLay_of_shaped se) (SeqAt.canLay_of_shaped sd) (room_in_shaped sd hu) ⟨.bl _, H, I, rfl, q⟩
theorem op_notInTD (hu : X.A.units + 65 < cLine) : OpR X (compareOp .NotIn) (rNotInTD X.K) := by
  intro pins s σ H x y v u Q I rx ry h
  obtain ⟨d, ds, hd, he, sd, se, q⟩ := h
  obtain ⟨as, r1⟩ := Dp.reads I d x v hd rx
  obtain ⟨bs, r2⟩ := Dp.reads I (.tuple ds) y u he ry
  exact SeqAt.notIn_tuple_reads r2 r1 (SeqAt.canLay_of_shaped se) (SeqAt.canLay_of_shaped sd) (room_in_shaped sd hu) ⟨.bl _, H, I, rfl, q⟩
/-- a text, repeated -/
def strRep (z : Str) (n : Nat) : Str := ⟨(List.replicate n z.cps).foldl (· ++ ·) #[]⟩
theorem foldl_app (z : Array Nat) : ∀ (n : Nat) (a : Array Nat), ((List.replicate n z).foldl (· ++ ·) a).size = a.size + z.size * n
  | 0, a => by simp
  | n + 1, a => by
    rw [List.replicate_succ, List.foldl_cons, foldl_app z n, Array.size_append, Nat.mul_succ]
    omega
theorem strRep_len (z : Str) (n : Nat) : (strRep z n).length = z.length * n := by
  show ((List.replicate n z.cps).foldl (· ++ ·) #[]).size = _
  rw [foldl_app]
  show (#[] : Array Nat).size + z.cps.size * n = z.cps.size * n
  simp
theorem op_repS : OpR X (binaryOp .Mult) (fun x y H Q => ∃ z k, x = .str z ∧ y = .int k ∧ 2 ≤ k ∧ k ≤ 1000 ∧ 0 < z.length ∧ z.length ≤ 1000 ∧ Q (.str (strRep z k.toNat)) H) := by
  intro pins s σ H x y v u Q I rx ry h
  obtain ⟨z, k, rfl, rfl, h2, h3, h4, h5, q⟩ := h
  obtain ⟨t, rfl⟩ := rx
  obtain ⟨t', rfl⟩ := ry
  have c1 : ¬ k < 1 := by omega
  have c2 : ¬ ((k == 1 || z.length == 0) = true) := by
    simp
    omega
  refine P.mul_str ?_ (fun _ _ => ?_) (fun _ _ => ?_) ?_
  · simp
    omega
  · have h6 : (1000 : Int) ≤ (2 ^ 63 - 1) / k := by
      apply (Int.le_ediv_iff_mul_le (by omega)).mpr
      omega
    omega
  · have h7 : z.length * k.toNat ≤ 1000 * 1000 := Nat.mul_le_mul h5 (by omega)
    show decide (z.length * k.toNat > sizeLine) = false
    rw [sizeLine_eq]
    exact decide_eq_false (by omega)
  · rw [if_neg c1, if_neg c2]
    refine ⟨?_, .str _, H, I.tok _, ⟨_, rfl⟩, q⟩
    show (strRep z k.toNat).length ≤ sizeLine
    rw [strRep_len, sizeLine_eq]
    have h7 : z.length * k.toNat ≤ 1000 * 1000 := Nat.mul_le_mul h5 (by omega)
    omega
/-- how often True stands in a list of bools -/
def isTrueV (v : Value) : Bool := match v with
  | .bool b => b
  | _ => false
theorem trueV_count : ∀ {us : List Value} {bs : List Bool}, Vals (bs.map V.bl) us → us.countP isTrueV = bs.count true ∧ ∀ y ∈ us, ∃ b, y = Value.bool b
  | us, [], r => by
    cases r
    exact ⟨rfl, fun y hy => by cases hy⟩
  | us, b :: bs, r => by
    cases r with
    | cons r1 rt =>
      obtain ⟨h1, h2⟩ := trueV_count rt
      obtain rfl := (show _ = Value.bool b from r1)
      refine ⟨?_, fun y hy => ?_⟩
      · rw [List.countP_cons, List.count_cons, h1]
        cases b <;> rfl
      · rcases List.mem_cons.mp hy with e | e
        · exact ⟨b, e⟩
        · exact h2 y e
def rCntB (K : PySem.W.Frag) : V → List V → Hp → VK → Prop := fun x xs H Q => ∃ (p : Addr) (bs : List Bool), x = .ref p ∧ xs = [.bl true] ∧ SqL K H p (bs.map V.bl) ∧ Q (.int (bs.count true : Nat)) H
theorem mt_lcountB : MtR X "list.count" (rCntB X.K) := by
  intro pins s σ H x xs v us Q I rx rxs h
  obtain ⟨p, bs, rfl, rfl, hs, q⟩ := h
  cases rx
  obtain ⟨u, rfl, ru⟩ := rxs.one
  cases (show u = Value.bool true from ru)
  obtain ⟨its, rv, ⟨⟨cls, dd, data, sl⟩, n, ho, hc, hdn, hd⟩, hlen⟩ := I.list hs
  simp only at hc hd
  subst hc hd
  obtain ⟨ec, hall⟩ := trueV_count rv
  refine call_meets PySem.F.slot_list_count ⟨_, ho, rfl⟩ PySem.F.entry_list_count (PySem.F.args_list_count_2 _ _)
    (SeqAt.list_countAt p its.toArray n dd sl (.bool true) isTrueV) ⟨ho, fun y hy => ?_, ?_⟩
  · obtain ⟨b, rfl⟩ := hall y (by simpa using hy)
    have z := SeqAt.EqAt.bool_bool (A := X.A.in1) (s := s) b true
    cases b <;> exact z
  · refine ⟨.int (bs.count true : Nat), H, I.tok _, ⟨s.toks, ?_⟩, q⟩
    show Value.int ((its.toArray.toList.countP isTrueV : Nat) : Int) s.toks = Value.int ((bs.count true : Nat) : Int) s.toks
    rw [show its.toArray.toList = its from rfl, ec]
/-- l.extend(t), t a tuple -/
def rExtT (K : PySem.W.Frag) : V → List V → Hp → VK → Prop := fun x vs H Q => ∃ l b xs zs, x = .ref l ∧ vs = [.ref b] ∧ H l = some (.lst xs) ∧ SqT K H b zs ∧ xs.length + zs.length ≤ sizeLine ∧ Q .non (upd H l (.lst (xs ++ zs)))
theorem ext_tup (l : Addr) (items : Array Value) (n : Nat) (b : Addr) (o : Obj) (items2 : Array Value) (n2 : Nat) (ho : o.cls = .type "tuple") (hd : o.data = .seq items2 n2) (hs0 : ¬(!items.isEmpty && Builtin.List.listTooLong (items.size + items2.size)) = true) (hs1 : items.size ≤ sizeLine) (hs2 : items.size + items2.size ≤ sizeLine + 1) :
    Meets (Builtin.«list.extend» ⟨[.ref l, .ref b], []⟩) (fun _ R s => s.heap.get? l = some { cls := .type "list", dict := none, data := .seq items n, slots := #[] } ∧ s.heap.get? b = some o ∧ R (.ok (.ret Value.none)) { s with heap := s.heap.update l (Obj.mapSeq fun x => x ++ items2), toks := s.toks }) :=
  .of_wp fun prog w A R s h => by
    obtain ⟨hp, g, d, tk, os⟩ := s
    obtain ⟨hl, hb, h⟩ := h
    obtain ⟨oc, od, dt, sl⟩ := o
    dsimp only at ho hd
    subst ho hd
    have f2 := sub_tuple_tuple
    have f3 := sub_list_list
    have f4 := sub_tuple_list
    have f5 := sub_list_tuple
    have hz' : (items ++ items2).size ≤ sizeLine + 1 := by
      rw [Array.size_append]
      exact hs2
    wp_walk using (wpAny_updateSeq hl rfl (hz := hs1) (_hz' := hz')), wpAny_loadPart' hl, wpAny_loadPart' hb
    exact ⟨_, rfl, h⟩
theorem mt_extT : MtR X "list.extend" (rExtT X.K) := by
  intro pins s σ H x vs v us Q I rx rv h
  obtain ⟨l, b, xs, zs, rfl, rfl, hH, hB, hz, q⟩ := h
  cases rx
  obtain ⟨u, rfl, ru⟩ := rv.one
  cases ru
  obtain ⟨z, its, n, r, hl, e⟩ := I.lstM hH
  obtain ⟨its2, r2, ⟨o, e2, c2, n2, d2⟩, _⟩ := I.tuple hB
  have hl2 := r2.length
  have hsz : its.toArray.size + its2.toArray.size ≤ sizeLine := by
    rw [List.size_toArray, List.size_toArray]
    omega
  have hlong : ¬ (!its.toArray.isEmpty && Builtin.List.listTooLong (its.toArray.size + its2.toArray.size)) = true := by
    rw [notLongL hsz, Bool.and_false]
    exact Bool.false_ne_true
  refine call_meets F.slot_list_extend ⟨_, e, rfl⟩ F.entry_list_extend (F.args_list_extend_2 _ _)
    (ext_tup l its.toArray n b o its2.toArray n2 c2 d2 hlong (by rw [List.size_toArray]; omega) (by omega)) ⟨e, e2, ?_⟩
  refine ⟨.non, _, I.lset (its' := its ++ its2) hH e (by simp) (r.append r2) ?_, rfl, q⟩
  rw [List.length_append]
  omega
end
end L2.My
end
section
set_option Elab.async false
set_option linter.all false
set_option maxRecDepth 100000
set_option maxHeartbeats 4000000
/-! max of a list of ints with a default. -/
namespace PySem
section
variable {prog : Program} {w : World} {A : Around} {R : Result → Shared → Prop} {I : Addr} {fp wr : List Addr} {n : Nat} {P : Nat → Value → Prop} {St : Nat → Heap → Prop} {kw : List (Str × Value)}
theorem maxKw_turn (W : Walks prog w A.in1 I fp wr n P St) (bt : Nat → Nat → Bool) (hcmp : CmpOf prog w A.in1 .Gt P bt) (S : Addr) (hSf : S ∉ fp) :
    ∀ (k j : Nat) (s : Shared) (vb : Value) (c : Nat), n - (j + 1) = k → j + 1 ≤ n → St (j + 1) s.heap → P (argBest bt j) vb →
      s.heap.get? S = some { cls := .type "list", dict := none, data := .seq #[vb, vb] c, slots := #[] } →
      (∀ v h' tk, P (argBest bt (n - 1)) v → (∀ b o, b ∉ wr → b ≠ S → s.heap.get? b = some o → h'.get? b = some o) → R (.ok (.ret v)) { s with heap := h', toks := tk }) →
      codeAny (model prog w) A (.builtin "max.loop" ⟨[.ref I, .none, .ref S], kw⟩) R s := by
  have away : S ∉ wr := fun h => hSf (W.sub _ h)
  have name : (toString "max" ++ toString ".loop" : String) = "max.loop" := by decide
  intro k
  induction k with
  | zero =>
    intro j s vb c hk hj st pb hS hR
    have last : j + 1 = n := by omega
    refine codeAny_builtin F.entry_max_loop ?_
    rw [Around.under_plainId F.plain_max_loop _]
    refine wpAny_bind (m := seqItems? (.ref S)) (wpAny_seqItems hS rfl ?_)
    refine wpAny_bind (wpAny_tryCatch (W.done s _ _ (last ▸ st) fun h' tk keep => ?_))
    have hS2 := keep S _ away hS
    refine wpAny_bind (m := updateSeq S (fun _ => #[])) ?_
    refine wpAny_updateSeq hS2 rfl (wpAny_bind (wpAny_letGo (wpAny_pure ?_)))
    refine hR vb _ tk (by rw [← last]; exact pb) fun b o n1 n2 e => ?_
    rw [Heap.get?_update_other _ _ (Ne.symm n2)]
    exact keep b o n1 e
  | succ k ih =>
    intro j s vb c hk hj st pb hS hR
    have more : j + 1 < n := by omega
    refine codeAny_builtin F.entry_max_loop ?_
    rw [Around.under_plainId F.plain_max_loop _]
    refine wpAny_bind (m := seqItems? (.ref S)) (wpAny_seqItems hS rfl ?_)
    refine wpAny_bind (wpAny_tryCatch (W.item (j + 1) s _ _ more st fun v h' tk pv st2 keep => ?_))
    have hS2 := keep S _ away hS
    refine wpAny_bind (wpAny_pure ?_)
    refine wpAny_bind (wpAny_tryCatch (wpAny_holding (wpAny_bind (hcmp (j + 1) (argBest bt j) v vb _ _ _ pv pb ?_))))
    refine wpAny_bind (wpAny_holding (wpAny_truthy_bool ?_))
    refine wpAny_bind (wpAny_letGo (wpAny_pure ?_))
    cases hb : bt (j + 1) (argBest bt j) with
    | true =>
      simp only [if_true]
      refine wpAny_bind ?_
      refine wpAny_updateSeq hS2 rfl (wpAny_bind (wpAny_letGo ?_))
      rw [name]
      refine wpAny_pure ⟨plainId_quiet F.plain_max_loop _, ih (j + 1) _ v _ (by omega) more (W.frame _ _ _ st2 fun b hbf o e => ?_) (by simp only [argBest, hb, if_true]; exact pv) (Heap.get?_update_self _ hS2 rfl) fun v' h2 tk2 p2 k2 => ?_⟩
      · rw [Heap.get?_update_other _ _ (fun z : S = b => hSf (by rw [z]; exact hbf))]
        exact e
      · refine hR v' h2 tk2 p2 fun b o n1 n2 e => k2 b o n1 n2 ?_
        rw [Heap.get?_update_other _ _ (Ne.symm n2)]
        exact keep b o n1 e
    | false =>
      simp only [Bool.false_eq_true, if_false]
      refine wpAny_bind (wpAny_letGo ?_)
      rw [name]
      refine wpAny_pure ⟨plainId_quiet F.plain_max_loop _, ih (j + 1) _ vb c (by omega) more st2 (by simp only [argBest, hb, Bool.false_eq_true, if_false]; exact pb) hS2 fun v' h2 tk2 p2 k2 => ?_⟩
      exact hR v' h2 tk2 p2 fun b o n1 n2 e => k2 b o n1 n2 (keep b o n1 e)
end
section
variable {prog : Program} {w : World} {A : Around} {E : Value → Shared → Prop} {s : Shared}
/-- a built-in function called with keywords: its own tree -/
theorem call_kw_tree {id : String} {b : Builtin} {args : List Value} {kw : List (Str × Value)} {Q : Value → Shared → Prop} (hk : builtinKind id = none) (hp : plainId id = true) (hb : entryFor table id = some b) (ha : argsOk id ⟨args, kw⟩)
    (hc : wpAny (model prog w) A.in1 (b ⟨args, kw⟩) (fun fin s' => match fin with
      | .done f => (match (Except.ok f : Result) with | .ok (.ret v) => Q v s' | .ok _ => False | .error e => E e s')
      | .again c' => c'.quiet = true ∧ codeAny (model prog w) A c' (fun r s' => match r with | .ok (.ret v) => Q v s' | .ok _ => False | .error e => E e s') s') E s) :
    wpAny (model prog w) A (call (.builtin id) args kw) Q E s := by
  refine wpAny_call (codeAny_call_builtin hp hb ?_)
  simp only [checkBuiltinCall, hk]
  cases hsig : Manifest.signature? id with
  | none => exact wpAny_pure hc
  | some sig =>
    simp only [argsOk, hsig] at ha
    show wpAny _ A.in1 (Bind.checkArgs id sig ⟨args, kw⟩) _ _ s
    rw [show Bind.checkArgs id sig ⟨args, kw⟩ = pure () from ha]
    exact wpAny_pure hc
theorem args_maxD (a d : Value) : argsOk "max" ⟨[a], [(Str.ofString "default", d)]⟩ := by
  unfold argsOk
  kernel_rfl
theorem bind_maxD (d : Value) : Builtin.Builtins.bindParams "max" ["key", "default"] 0 ⟨[], [(Str.ofString "default", d)]⟩ = pure [none, some d] := by
  kernel_rfl
theorem max_intListD {l : Addr} {xs : Array (Int × Tok)} {d : Value} {Q : Value → Shared → Prop} (hh : A.handled = none) (hl : s.heap.IsList l (intItems xs))
    (h0 : xs.size = 0 → ∀ h' tk, (∀ b o, s.heap.get? b = some o → h'.get? b = some o) → Q d { s with heap := h', toks := tk })
    (h : 0 < xs.size → ∀ v h' tk, (intItems xs)[argBest (fun i j => decide (numAt xs i > numAt xs j)) (xs.size - 1)]? = some v → (∀ b o, s.heap.get? b = some o → h'.get? b = some o) → Q v { s with heap := h', toks := tk }) :
    wpAny (model prog w) A (call (.builtin "max") [.ref l] [(Str.ofString "default", d)]) Q E s := by
  have name : (toString "max" ++ toString ".loop" : String) = "max.loop" := by decide
  refine call_kw_tree F.kind_max F.plain_max F.entry_max (args_maxD _ _) ?_
  refine wpAny_bind (m := Builtin.Builtins.bindParams "max" ["key", "default"] 0 ⟨[], [(Str.ofString "default", d)]⟩) (wpAny_of_eq (bind_maxD d) ?_)
  refine wpAny_bind (wpAny_pure ?_)
  refine wpAny_bind (iter_intList hl fun s₂ e st hfp hlI => ?_)
  subst e
  refine wpAny_bind (wpAny_newObj_type ?_)
  rw [name]
  have W := Walks.list (prog := prog) (w := w) (A := A.in1) hh _ l hlI (intItems xs)
  have ne : (s.heap.push { cls := .type "list_iterator", data := .fields #[.ref l, .int 0 0] }).objs.size ∉ [s.heap.objs.size, l] := fun hm => Nat.lt_irrefl _ (hfp _ hm)
  have up : ∀ {b : Addr} {o o2 : Obj}, s.heap.get? b = some o → ((s.heap.push { cls := .type "list_iterator", data := .fields #[.ref l, .int 0 0] }).push o2).get? b = some o := fun e => Heap.get?_push_of_some _ (Heap.get?_push_of_some _ e)
  have old : ∀ {b : Addr} {o : Obj}, s.heap.get? b = some o → b ∉ [s.heap.objs.size] := fun e hm => by
    rcases List.mem_cons.mp hm with z | z
    · exact absurd (z ▸ Heap.lt_size e) (Nat.lt_irrefl _)
    · cases z
  have old2 : ∀ {b : Addr} {o : Obj}, s.heap.get? b = some o → b ≠ (s.heap.push { cls := .type "list_iterator", data := .fields #[.ref l, .int 0 0] }).objs.size := fun e => Nat.ne_of_lt (Heap.lt_size (Heap.get?_push_of_some _ e))
  have st0 := W.frame 0 _ ((s.heap.push { cls := .type "list_iterator", data := .fields #[.ref l, .int 0 0] }).push { cls := .type "list", data := .seq #[] }) st fun b _ o e => Heap.get?_push_of_some _ e
  have hS : ((s.heap.push { cls := .type "list_iterator", data := .fields #[.ref l, .int 0 0] }).push { cls := .type "list", data := .seq #[] }).get? (s.heap.push { cls := .type "list_iterator", data := .fields #[.ref l, .int 0 0] }).objs.size = some { cls := .type "list", data := .seq #[] } := Heap.get?_push_size _ rfl
  refine wpAny_pure ⟨plainId_quiet F.plain_max_loop _, ?_⟩
  refine codeAny_builtin F.entry_max_loop ?_
  rw [Around.under_plainId F.plain_max_loop _]
  refine wpAny_bind (m := seqItems? (.ref _)) (wpAny_seqItems hS rfl ?_)
  have szE : (intItems xs).size = xs.size := by simp [intItems]
  by_cases hz : xs.size = 0
  · refine wpAny_bind (wpAny_tryCatch (W.done _ _ _ (by rw [szE, hz]; exact st0) fun h' tk keep => ?_))
    refine wpAny_bind (wpAny_rule (wpAny_pure ?_))
    exact h0 hz h' tk fun b o e => keep b o (old e) (up e)
  · refine wpAny_bind (wpAny_tryCatch (W.item 0 _ _ _ (by rw [szE]; omega) st0 fun v h' tk pv st2 keep => ?_))
    have hS2 := keep _ _ (by simp [Heap.size_push]) hS
    refine wpAny_bind (wpAny_pure ?_)
    refine wpAny_bind ?_
    refine wpAny_updateSeq hS2 rfl ?_
    rw [name]
    refine wpAny_pure ⟨plainId_quiet F.plain_max_loop _, maxKw_turn W _ (CmpOf.ints_gt (numAt xs) (fun _ _ => intItems_at)) _ ne _ 0 _ v _ rfl (by rw [szE]; omega) (W.frame _ _ _ st2 fun b hbf o e => ?_) pv (Heap.get?_update_self _ hS2 rfl) fun v' h2 tk2 p2 k2 => ?_⟩
    · rw [Heap.get?_update_other _ _ (fun z => ne (by rw [z]; exact hbf))]
      exact e
    · rw [szE] at p2
      refine h (by omega) v' h2 tk2 p2 fun b o e => k2 b o (old e) (old2 e) ?_
      rw [Heap.get?_update_other _ _ (Ne.symm (old2 e))]
      exact keep b o (old e) (up e)
end
end PySem
namespace L2.My
open PySem PySem.Spec PyProof.Rows
section
variable {X : Cx}
/-- max(xs, default=d) of a list of ints -/
def rMaxD (K : PySem.W.Frag) : List V → List V → Hp → VK → Prop := fun xs zs H Q => ∃ (a : Addr) (ns : List Int) (d : Int), xs = [.ref a] ∧ zs = [.int d] ∧ SqL K H a (ns.map V.int) ∧ (ns = [] → Q (.int d) H) ∧ ∀ m, m ∈ ns → (∀ y, y ∈ ns → y ≤ m) → Q (.int m) H
theorem cr_maxD (hc : X.calm = true) : CallRK X (.builtin "max") [Str.ofString "default"] (rMaxD X.K) := by
  intro pins s σ H vs zs us ws Q I r rz h
  obtain ⟨a, ns, d, rfl, rfl, hs, q0, q1⟩ := h
  obtain ⟨its, rv, hl, _⟩ := I.list hs
  have hi := rv.ints
  obtain rfl := Vals.ref1 r
  obtain ⟨w1, rfl, e1⟩ := vals1 rz
  obtain ⟨td, rfl⟩ := (show ∃ t, w1 = Value.int d t from e1)
  obtain ⟨xs, e⟩ := hi.allInts.items
  have hn : numsOf (intItems xs).toList = ns := by rw [← e]; exact hi.numsOf
  rw [nums_intItems] at hn
  have hl2 := hl.isList
  rw [e] at hl2
  have ez : ns.length = xs.size := by rw [← hn, List.length_map, Array.length_toList]
  refine PySem.max_intListD (I.ok.hd hc) hl2 (fun h0 h' tk keep => ?_) fun h0 v h' tk hv keep => ?_
  · exact ⟨.int d, H, I.kept keep, ⟨td, rfl⟩, q0 (List.eq_nil_of_length_eq_zero (by rw [ez, h0]))⟩
  · obtain ⟨t, rfl⟩ := intItems_at hv
    obtain ⟨h1, h2⟩ := argBest_gt (numAt xs) (xs.size - 1)
    refine ⟨.int _, H, I.kept keep, ⟨t, rfl⟩, q1 _ ?_ fun y hy => ?_⟩
    · rw [← hn, numAt_eq]
      exact PySem.getD_mem (by rw [List.length_map, Array.length_toList]; omega)
    · rw [← hn] at hy
      obtain ⟨j, hj, rfl⟩ := mem_getD hy
      rw [List.length_map, Array.length_toList] at hj
      rw [← numAt_eq]
      exact h2 j (by omega)
end
end L2.My
end
section
set_option Elab.async false
set_option linter.all false
set_option maxRecDepth 100000
set_option maxHeartbeats 4000000
namespace L2.My
open PySem PySem.Spec PyProof.Rows
theorem same_upd {H : Hp} {p : Addr} {o : HO} (h : H p = none) : Same H (upd H p o) := fun b x e => by
  rw [upd_ne (ne_of_none e h)]
  exact e
theorem keep_ne {H : Hp} {p : Addr} {o : HO} {b : Addr} {x : HO} (h : H p = none) (e : H b = some x) : (upd H p o) b = some x := same_upd h _ _ e
theorem cutTo (xs : List V) (n : Nat) : cutV xs none (some (n : Int)) = xs.take n := by
  unfold cutV
  rw [HT.sIx_none, HT.sIx_nat]
  rw [List.drop_zero, Nat.sub_zero]
  rw [← List.take_eq_take_min]
theorem ixN_zero {n : Nat} (h : 0 < n) : ixN n 0 = some 0 := by
  unfold ixN
  rw [if_pos (by omega), if_pos (by omega)]
  rfl
theorem mod_in {x m : Int} (h : 0 < m) : 0 ≤ x % m ∧ x % m < m := ⟨Int.emod_nonneg _ (by omega), Int.emod_lt_of_pos _ h⟩
inductive ThT (H : Hp) : V → String → Prop where
  | non : ThT H .non "NoneType"
  | bl (b : Bool) : ThT H (.bl b) "bool"
  | int (i : Int) : ThT H (.int i) "int"
  | str (x : Str) : ThT H (.str x) "str"
  | lst {a : Addr} {xs : List V} (h : H a = some (.lst xs)) : ThT H (.ref a) "list"
  | tup {a : Addr} {xs : List V} (h : H a = some (.tup xs)) : ThT H (.ref a) "tuple"
  | dct {a : Addr} {kvs : List (Key × V)} (h : H a = some (.dK kvs)) : ThT H (.ref a) "dict"
def instT (t n : String) : Bool := t == n || (t == "bool" && n == "int")
theorem ThT.tyX {K : PySem.W.Frag} {H : Hp} {v : V} {t : String} (h : ThT H v t) : TyX K H v (.type t) := by
  cases h with
  | non => exact .base .non
  | bl b => exact .base (.bl b)
  | int i => exact .base (.int i)
  | str x => exact .base (.str x)
  | lst h => exact .base (.lst h)
  | tup h => exact .base (.tup h)
  | dct h => exact .base (.dK h)
theorem kitB_all : ∀ t ∈ ["NoneType", "bool", "int", "str", "list", "tuple", "dict"], ∀ n ∈ ["bool", "int", "str", "list", "tuple", "dict"], kitB t n = some (instT t n) := by decide +kernel
theorem ThT.mem {H : Hp} {v : V} {t : String} (h : ThT H v t) : t ∈ ["NoneType", "bool", "int", "str", "list", "tuple", "dict"] := by
  cases h <;> decide
theorem ThT.keep {H H' : Hp} {v : V} {t : String} (h : ThT H v t) (s : Same H H') : ThT H' v t := by
  cases h with
  | non => exact .non
  | bl b => exact .bl b
  | int i => exact .int i
  | str x => exact .str x
  | lst h => exact .lst (s _ _ h)
  | tup h => exact .tup (s _ _ h)
  | dct h => exact .dct (s _ _ h)
def rIsTh : List V → Hp → VK → Prop := fun xs H Q => ∃ v n t, xs = [v, .ty n] ∧ ThT H v t ∧ n ∈ ["bool", "int", "str", "list", "tuple", "dict"] ∧ Q (.bl (instT t n)) H
theorem call_isTh {X : Cx} : CallR X (.builtin "isinstance") rIsTh := by
  intro pins s σ H xs us Q I r h
  obtain ⟨v, n, t, rfl, ht, hn, q⟩ := h
  exact call_isi pins s σ H _ us Q I r ⟨_, _, _, _, _, rfl, .ty _, ht.tyX, kit_ty (kitB_all t ht.mem n hn), q⟩
def belowV (n : Int) : V → Bool
  | .int i => decide (0 ≤ i ∧ i < n)
  | _ => false
theorem lt1 (a b : Nat) : decide (([a] : List Nat) < [b]) = decide (a < b) := by
  by_cases h : a < b
  · rw [decide_eq_true h, decide_eq_true (by exact List.Lex.rel h)]
  · rw [decide_eq_false h]
    refine decide_eq_false fun z => ?_
    rcases (List.cons_lt_cons_iff.mp z) with z | z
    · exact h z
    · exact absurd z.2 (by simp)
theorem seq_set {te : TE} {i : Nat} {u : TS} {D : Ends} {σ : St} {H : Hp} (h : te σ H fun v H1 => u D (σ.set i (some v)) H1) : tSeq (tAsg te (gName i)) u D σ H := h
theorem seq_par3 {ta : TA} {i j l : Nat} {u : TS} {D : Ends} {σ : St} {H : Hp} (h : ta σ H fun vs H1 => ∃ x y z, vs = [x, y, z] ∧ u D (((σ.set i (some x)).set j (some y)).set l (some z)) H1) : tSeq (tPar3 i j l ta) u D σ H := h
theorem seq_par {ta : TA} {i j : Nat} {u : TS} {D : Ends} {σ : St} {H : Hp} (h : ta σ H fun vs H1 => ∃ x y, vs = [x, y] ∧ u D ((σ.set i (some x)).set j (some y)) H1) : tSeq (tPar i j ta) u D σ H := h
theorem ret_of {te : TE} {D : Ends} {σ : St} {H : Hp} (h : te σ H D.rt) : tRet te D σ H := h
theorem lst_of {ta : TA} {σ : St} {H : Hp} {Q : VK} (h : ta σ H fun xs H1 => xs.length ≤ sizeLine ∧ ∀ p, H1 p = none → Q (.ref p) (upd H1 p (.lst xs))) : tLst ta σ H Q := h
theorem tup_of {ta : TA} {σ : St} {H : Hp} {Q : VK} (h : ta σ H fun xs H1 => xs.length ≤ sizeLine ∧ ∀ p, H1 p = none → Q (.ref p) (upd H1 p (.tup xs))) : tTup ta σ H Q := h
theorem cons_of {te : TE} {ta : TA} {σ : St} {H : Hp} {Q : List V → Hp → Prop} (h : te σ H fun x H1 => ta σ H1 fun xs H2 => Q (x :: xs) H2) : tCons te ta σ H Q := h
theorem nil_of {σ : St} {H : Hp} {Q : List V → Hp → Prop} (h : Q [] H) : tNil σ H Q := h
section
variable {J : It} {n : Nat} {G : Hp → Prop} {Y : Nat → Hp → V → Hp → Prop}
def CompOut (J : It) (g : TG) (tt : TT) (te : TE) (vs : List Nat) (σ : St) (D : Addr) (Qd : Hp → Prop) (H1 : Hp) : Prop :=
    ∃ W : Nat → Nat → Hp → Prop, (∃ m, W 0 m (upd H1 D (.lst []))) ∧ ∀ i m H, W i m H →
      (J.stop i H ∧ Qd H) ∨ (J.go i H ∧ ∃ Nx : Hp → Prop, (∀ H', Nx H' → ∃ m', m' < m ∧ W (i + 1) m' H') ∧ ∀ x H', J.yld i H x H' → g x (wipe σ vs) H' fun σ2 H2 => wipe σ2 vs = wipe σ vs ∧ tt σ2 H2 fun b H3 =>
        if b = true then te σ2 H3 fun y H4 => ∃ acc, H4 D = some (.lst acc) ∧ acc.length < sizeLine ∧ Nx (upd H4 D (.lst (acc ++ [y]))) else Nx H3)
theorem range_map_snoc {α : Type} (f : Nat → α) (i : Nat) : (List.range i).map f ++ [f i] = (List.range (i + 1)).map f := by
  rw [List.range_succ, List.map_append]; rfl
theorem range_fm_snoc {α : Type} (f : Nat → Option α) (i : Nat) {v : α} (h : f i = some v) : (List.range i).filterMap f ++ [v] = (List.range (i + 1)).filterMap f := by
  rw [List.range_succ, List.filterMap_append]; simp [h]
theorem range_fm_skip {α : Type} (f : Nat → Option α) (i : Nat) (h : f i = none) : (List.range i).filterMap f = (List.range (i + 1)).filterMap f := by
  rw [List.range_succ, List.filterMap_append]; simp [h]
theorem same_grow {H H4 H1 : Hp} {D : Addr} {o : HO} (s : Same H H4) (hD : H1 D = none) (s1 : Same H1 H) : Same H1 (upd H4 D o) := fun b u e => by
  rw [upd_ne (ne_of_none e hD)]
  exact s _ _ (s1 _ _ e)
theorem lcP (w : Walk J n G Y) {g : TG} {te : TE} {vs : List Nat} {σ : St} {H1 : Hp} {D : Addr} {Qd : Hp → Prop} (fv : Nat → V) (hn : n < sizeLine) (hD : H1 D = none) (hG : ∀ H', Same H1 H' → G H')
    (hs : ∀ i x H H' (Q' : VK), i < n → Same H1 H → Y i H x H' → (∀ H4, Same H H4 → Q' (fv i) H4) → g x (wipe σ vs) H' fun σ2 H2 => wipe σ2 vs = wipe σ vs ∧ te σ2 H2 Q')
    (hd : ∀ H, Same H1 H → H D = some (.lst ((List.range n).map fv)) → Qd H) : CompOut J g tYes te vs σ D Qd H1 := by
  refine lc_it w (tt := tYes) (fun i H => Same H1 H ∧ H D = some (.lst ((List.range i).map fv))) ⟨same_upd hD, upd_same⟩ (fun i H _ h => hG H h.1) ?_ (fun H h => hd H h.1 h.2)
  rintro i x H H' hi ⟨sm, hd'⟩ y
  have q := hs i x H H' (fun v H4 => ∃ acc, H4 D = some (.lst acc) ∧ acc.length < sizeLine ∧ Same H1 (upd H4 D (.lst (acc ++ [v]))) ∧ (upd H4 D (.lst (acc ++ [v]))) D = some (.lst ((List.range (i + 1)).map fv))) hi sm y
    (fun H4 s4 => ⟨_, s4 _ _ hd', by rw [List.length_map, List.length_range]; omega, same_grow s4 hD sm, by rw [upd_same, range_map_snoc]⟩)
  exact q
theorem lcF (w : Walk J n G Y) {g : TG} {tt : TT} {te : TE} {vs : List Nat} {σ : St} {H1 : Hp} {D : Addr} {Qd : Hp → Prop} (fv : Nat → Option V) (hn : n < sizeLine) (hD : H1 D = none) (hG : ∀ H', Same H1 H' → G H')
    (hs : ∀ i x H H' (Q' : VK) (N' : Hp → Prop), i < n → Same H1 H → Y i H x H' → (∀ v, fv i = some v → ∀ H4, Same H H4 → Q' v H4) → (fv i = none → ∀ H4, Same H H4 → N' H4) →
      g x (wipe σ vs) H' fun σ2 H2 => wipe σ2 vs = wipe σ vs ∧ tt σ2 H2 fun b H3 => if b = true then te σ2 H3 Q' else N' H3)
    (hd : ∀ H, Same H1 H → H D = some (.lst ((List.range n).filterMap fv)) → Qd H) : CompOut J g tt te vs σ D Qd H1 := by
  refine lc_it w (fun i H => Same H1 H ∧ H D = some (.lst ((List.range i).filterMap fv))) ⟨same_upd hD, upd_same⟩ (fun i H _ h => hG H h.1) ?_ (fun H h => hd H h.1 h.2)
  rintro i x H H' hi ⟨sm, hd'⟩ y
  have hl : ((List.range i).filterMap fv).length < sizeLine := by
    have := List.length_filterMap_le fv (List.range i)
    rw [List.length_range] at this
    omega
  have q := hs i x H H' (fun v H4 => ∃ acc, H4 D = some (.lst acc) ∧ acc.length < sizeLine ∧ Same H1 (upd H4 D (.lst (acc ++ [v]))) ∧ (upd H4 D (.lst (acc ++ [v]))) D = some (.lst ((List.range (i + 1)).filterMap fv)))
    (fun H4 => Same H1 H4 ∧ H4 D = some (.lst ((List.range (i + 1)).filterMap fv))) hi sm y
    (fun v hv H4 s4 => ⟨_, s4 _ _ hd', hl, same_grow s4 hD sm, by rw [upd_same, range_fm_snoc fv i hv]⟩) (fun hv H4 s4 => ⟨sm.trans s4, by rw [← range_fm_skip fv i hv]; exact s4 _ _ hd'⟩)
  exact q
end
def BL (L : List Addr) (H H' : Hp) : Prop := ∀ p o, p ∉ L → H p = some o → H' p = some o
theorem BL.refl {L : List Addr} {H : Hp} : BL L H H := fun _ _ _ h => h
theorem BL.trans {L : List Addr} {H H1 H2 : Hp} (x : BL L H H1) (y : BL L H1 H2) : BL L H H2 := fun p o h e => y p o h (x p o h e)
theorem BL.same {L : List Addr} {H H' : Hp} (s : Same H H') : BL L H H' := fun p o _ e => s _ _ e
theorem BL.upd {L : List Addr} {H : Hp} {p : Addr} {o : HO} (h : p ∈ L) : BL L H (upd H p o) := fun q u hq e => by
  rw [upd_ne (fun z => hq (by rw [z]; exact h))]; exact e
theorem u65 {k : Nat} {A : Around} (h : Room k A) : A.units + 65 < cLine := by have := h.un; omega
theorem u1 {k : Nat} {A : Around} (h : Room k A) : A.units + 1 < cLine := by have := h.un; omega
def kD : Key → PyData
  | .inl i => .int i
  | .inr x => .str x
def pD (ks : List Key) : PyData := .tuple (ks.map kD)
theorem eqvAll_map {α : Type} [DecidableEq α] {f : α → PyData} (h : ∀ a b, PyData.eqv (f a) (f b) = decide (a = b)) : ∀ xs ys : List α, PyData.eqvAll (xs.map f) (ys.map f) = decide (xs = ys)
  | [], [] => by simp [PyData.eqvAll]
  | [], y :: ys => by simp [PyData.eqvAll]
  | x :: xs, [] => by simp [PyData.eqvAll]
  | x :: xs, y :: ys => by
    rw [List.map_cons, List.map_cons, PyData.eqvAll, h, eqvAll_map h xs ys]
    by_cases h1 : x = y
    · by_cases h2 : xs = ys
      · simp [h1, h2]
      · simp [h1, h2]
    · simp [h1]
theorem eqv_k (a b : Key) : PyData.eqv (kD a) (kD b) = decide (a = b) := by
  cases a with
  | inl i => cases b with
    | inl j =>
      show PyData.eqv (.int i) (.int j) = _
      rw [PyData.eqv]
      by_cases h : i = j
      · subst h; simp
      · have : ¬ (Sum.inl i : Key) = Sum.inl j := fun z => h (Sum.inl.inj z)
        rw [decide_eq_false this]; simp [h]
    | inr y =>
      show PyData.eqv (.int i) (.str y) = _
      rw [decide_eq_false (fun z => nomatch z)]; simp [PyData.eqv]
  | inr x => cases b with
    | inl j =>
      show PyData.eqv (.str x) (.int j) = _
      rw [decide_eq_false (fun z => nomatch z)]; simp [PyData.eqv]
    | inr y =>
      show PyData.eqv (.str x) (.str y) = _
      rw [PyData.eqv]
      by_cases h : x = y
      · subst h; simp
      · have : ¬ (Sum.inr x : Key) = Sum.inr y := fun z => h (Sum.inr.inj z)
        rw [decide_eq_false this]; exact beq_eq_false_iff_ne.mpr h
theorem eqv_p (a b : List Key) : PyData.eqv (pD a) (pD b) = decide (a = b) := by
  unfold pD
  rw [PyData.eqv]
  exact eqvAll_map eqv_k a b
theorem eqv_s (x y : Str) : PyData.eqv (.str x) (.str y) = decide (x = y) := by
  have := eqv_k (.inr x) (.inr y)
  rw [show PyData.eqv (.str x) (.str y) = PyData.eqv (kD (.inr x)) (kD (.inr y)) from rfl, this]
  exact key_rr x y
def rLen (K : PySem.W.Frag) : List V → Hp → VK → Prop := fun xs H Q => ∃ p ys, xs = [.ref p] ∧ (SqL K H p ys ∨ SqT K H p ys) ∧ Q (.int ys.length) H
theorem can_map {α : Type} {f : α → PyData} : ∀ {xs : List α}, (∀ x ∈ xs, PyData.canLay0 (f x) = true) → PyData.canLayAll0 (xs.map f) = true
  | [], _ => by simp [PyData.canLayAll0]
  | x :: r, h => by
    have := can_map (f := f) (xs := r) fun y hy => h y (List.mem_cons_of_mem _ hy)
    simp [PyData.canLayAll0, this, h x List.mem_cons_self]
theorem dep_map {α : Type} {f : α → PyData} {n : Nat} (h : ∀ x, PyData.depth (f x) ≤ n) : ∀ xs : List α, PyData.depthAll (xs.map f) ≤ n
  | [] => by simp [PyData.depthAll]
  | x :: r => by
    have h1 := dep_map h r
    have h2 := h x
    simp only [List.map_cons, PyData.depthAll]
    omega
theorem shaped_list {α : Type} {f : α → PyData} {n : Nat} (hn : n < 64) (hd : ∀ x, PyData.depth (f x) ≤ n) {xs : List α} (hc : ∀ x ∈ xs, PyData.canLay0 (f x) = true) : SeqAt.shaped (.list (xs.map f)) = true := by
  have h1 := can_map hc
  have h2 := dep_map hd xs
  simp only [SeqAt.shaped, PyData.canLay0, PyData.depth, Bool.and_eq_true, decide_eq_true_eq]
  exact ⟨h1, decide_eq_true (by omega)⟩
theorem shaped_ints (xs : List Int) : SeqAt.shaped (.list (xs.map .int)) = true := shaped_list (n := 1) (by decide) (fun x => by simp [PyData.depth]) fun e he => by simp [PyData.canLay0]
theorem dp_ints {K : PySem.W.Frag} {H : Hp} : ∀ xs : List Int, DpAll K H (xs.map .int) (xs.map .int)
  | [] => .nil
  | x :: r => .cons (.int x) (dp_ints r)
theorem seqT {K : PySem.W.Frag} {H H' : Hp} {a : Addr} {xs : List V} (e : Same H H') (h : SqT K H a xs) : SqT K H' a xs := by
  rcases h with (h | ⟨o, h⟩) | h
  · exact .inl (.inl (e _ _ h))
  · exact .inl (.inr ⟨o, e _ _ h⟩)
  · exact .inr h
end L2.My
end
section
set_option Elab.async false
set_option linter.all false
set_option maxRecDepth 100000
set_option maxHeartbeats 4000000
/-! enumerate of a tuple, of a dict; setdefault and comprehensions of dicts with tuple keys. -/
namespace PySem
open PySem.Spec PyProof.Rows
section
variable {prog : Program} {w : World} {A : Around} {E : Value → Shared → Prop} {s : Shared}
/-- the next key of a dict's iterator, as another iterator draws it -/
theorem my_keyNext {it d : Addr} {i n ep : Nat} {od : Obj} {es : Array DictEntry} {en : DictEntry} {Q : Value → Shared → Prop} (hit : s.heap.IsKeyIter it d i n ep) (hod : s.heap.get? d = some od) (hdd : od.data = .dict es ep)
    (hsz : es.size = n) (hx : es[i]? = some en) (hQ : ∀ h', h'.IsKeyIter it d (i + 1) n ep → Heap.SameBut it s.heap h' → Q en.key { s with heap := h' }) : wpAny (model prog w) A (Builtin.SmallTypes.nextOf (.ref it)) Q E s := by
  obtain ⟨o, ho, hc, hd⟩ := id hit
  unfold Builtin.SmallTypes.nextOf
  refine wpAny_bind (wpAny_callSpecial?_slot (name := Str.ofString "__next__") hit.typeIs F.slot_dict_keyiterator_next (wpAny_call_entry F.slot_dict_keyiterator_next hit.typeIs F.entry_dict_keyiterator_next ?_ (F.args_dict_keyiterator_next_1 _)))
  refine wpAny_bind (wpAny_pure (wpAny_bind (wpAny_bind ?_)))
  first | refine wpAny_bind (wpAny_typeNameOfWhole_keyiter hit.typeIs (wpAny_pure (wpAny_bind (wpAny_fieldsOf ho hd ?_)))) | refine wpAny_bind (wpAny_typeNameOf_keyiter hit.typeIs (wpAny_pure (wpAny_bind (wpAny_fieldsOf ho hd ?_))))
  have own : Builtin.Dict_items.ownsTuple "dict_keyiterator" = false := by decide
  simp only [own, Bool.false_eq_true, if_false]
  show wpAny _ _ (if (Value.ref d == Value.none) = true then _ else _) _ _ _
  rw [if_neg (show ¬ (Value.ref d == Value.none) = true from fun z => nomatch z)]
  refine wpAny_bind (wpAny_pure (wpAny_bind (wpAny_dictEntries hod hdd ?_)))
  rw [if_neg (by simp [hsz])]
  refine wpAny_bind (wpAny_pure (wpAny_bind (wpAny_dictEpoch hod hdd ?_)))
  rw [if_neg (by simp)]
  refine wpAny_pure ?_
  obtain ⟨lt, hen⟩ := Array.getElem?_eq_some_iff.mp hx
  simp only [show ¬ ((i : Int) < 0) by omega, if_false, Int.toNat_natCast, Array.getElem?_eq_getElem lt]
  refine wpAny_bind ?_
  first | refine wpAny_bind (wpAny_typeNameOfWhole_keyiter hit.typeIs (wpAny_pure (wpAny_bind (wpAny_isOneOf_keyiter hit.typeIs ?_)))) | refine wpAny_bind (wpAny_typeNameOf_keyiter hit.typeIs (wpAny_pure (wpAny_bind (wpAny_isOneOf_keyiter hit.typeIs ?_))))
  show wpAny _ _ (setField (.ref it) 1 (rawInt ((i : Int) + 1)) >>= _) _ _ _
  refine wpAny_bind (wpAny_setField ho hd (by simp) ?_)
  have hit2 : (s.heap.update it (Obj.mapFields (·.setIfInBounds 1 (rawInt ((i : Int) + 1))))).IsKeyIter it d (i + 1) n ep := ⟨_, Heap.get?_update_self _ ho (Obj.isFreed_of_fields (Obj.data_mapFields hd _)), (Obj.cls_mapFields ..).trans hc, by rw [Obj.data_mapFields hd]; simp [rawInt]⟩
  refine wpAny_bind (wpAny_holding (wpAny_bind (wpAny_isOneOf_keyiter (s := { s with heap := s.heap.update it (Obj.mapFields (·.setIfInBounds 1 (rawInt ((i : Int) + 1)))) }) hit2.typeIs ?_)))
  show wpAny _ _ (pure es[i].key) _ _ _
  rw [hen]
  exact wpAny_pure (wpAny_pure ⟨_, rfl, wpAny_pure (hQ _ hit2 (Heap.SameBut.update ..))⟩)
theorem my_keyEnd {it d : Addr} {i n ep : Nat} {od : Obj} {es : Array DictEntry} {Q : Value → Shared → Prop} (hh : A.handled = none) (hit : s.heap.IsKeyIter it d i n ep) (hod : s.heap.get? d = some od) (hdd : od.data = .dict es ep)
    (hsz : es.size = n) (hge : n ≤ i) (hE : ∀ h' e, Heap.ExtBut it s.heap h' → (∃ o, h'.get? e = some o ∧ o.cls = .type "StopIteration") → E (.ref e) { s with heap := h' }) : wpAny (model prog w) A (Builtin.SmallTypes.nextOf (.ref it)) Q E s := by
  obtain ⟨o, ho, hc, hd⟩ := id hit
  unfold Builtin.SmallTypes.nextOf
  refine wpAny_bind (wpAny_callSpecial?_slot (name := Str.ofString "__next__") hit.typeIs F.slot_dict_keyiterator_next (wpAny_call_entry F.slot_dict_keyiterator_next hit.typeIs F.entry_dict_keyiterator_next ?_ (F.args_dict_keyiterator_next_1 _)))
  refine wpAny_bind (wpAny_pure (wpAny_bind (wpAny_bind ?_)))
  first | refine wpAny_bind (wpAny_typeNameOfWhole_keyiter hit.typeIs (wpAny_pure (wpAny_bind (wpAny_fieldsOf ho hd ?_)))) | refine wpAny_bind (wpAny_typeNameOf_keyiter hit.typeIs (wpAny_pure (wpAny_bind (wpAny_fieldsOf ho hd ?_))))
  have own : Builtin.Dict_items.ownsTuple "dict_keyiterator" = false := by decide
  simp only [own, Bool.false_eq_true, if_false]
  show wpAny _ _ (if (Value.ref d == Value.none) = true then _ else _) _ _ _
  rw [if_neg (show ¬ (Value.ref d == Value.none) = true from fun z => nomatch z)]
  refine wpAny_bind (wpAny_pure (wpAny_bind (wpAny_dictEntries hod hdd ?_)))
  rw [if_neg (by simp [hsz])]
  refine wpAny_bind (wpAny_pure (wpAny_bind (wpAny_dictEpoch hod hdd ?_)))
  rw [if_neg (by simp)]
  refine wpAny_pure ?_
  have ge2 : es.size ≤ i := by omega
  simp only [show ¬ ((i : Int) < 0) by omega, if_false, Int.toNat_natCast, Array.getElem?_eq_none ge2]
  refine wpAny_bind ?_
  first | refine wpAny_bind (wpAny_typeNameOfWhole_keyiter hit.typeIs (wpAny_pure ?_)) | refine wpAny_bind (wpAny_typeNameOf_keyiter hit.typeIs (wpAny_pure ?_))
  show wpAny _ _ (setField (.ref it) 0 .none >>= _) _ _ _
  refine wpAny_bind (wpAny_setField ho hd (by simp) ?_)
  show wpAny _ _ (newExc (.type "StopIteration") [] >>= _) _ _ _
  simp only [newExc, newTuple]
  refine wpAny_bind (wpAny_bind (wpAny_newObj_type ?_ (by size_fits)))
  refine wpAny_bind (m := firstArgMember _ _) (wpAny_of_eq (a := Value.none) (by first | rfl | (simp only [firstArgMember]; rfl)) (wpAny_newObj_type ?_ (by size_fits)))
  simp only [raiseNew]
  refine wpAny_bind (wpAny_handled ?_)
  first | rw [show A.in1.handled = none from hh] | rw [hh]
  refine wpAny_bind (wpAny_pure (wpAny_throw ?_))
  exact hE _ _ (((Heap.SameBut.update ..).extBut.push _).push _) ⟨_, Heap.get?_push_size _ rfl, rfl⟩
end
theorem my_drawKeys {prog : Program} {w : World} {A : Around} (hh : A.handled = none) (it d : Addr) (hne : d ≠ it) (od : Obj) (es : Array DictEntry) (ep : Nat) (hdd : od.data = .dict es ep) :
    Draws prog w A it [it, d] es.size (fun i v => ∃ en, es[i]? = some en ∧ v = en.key) (fun i h => h.IsKeyIter it d i es.size ep ∧ h.get? d = some od) where
  live := fun _ _ st => let ⟨o, ho, _⟩ := st.1; ⟨o, ho⟩
  frame := fun _ _ _ st hk => ⟨st.1.at fun o e => hk it (by simp) o e, hk d (by simp) _ st.2⟩
  item := fun i s Q E hi st hQ => my_keyNext st.1 st.2 hdd rfl (en := es[i]) (by simp [hi]) fun h' hit' hs' => hQ _ h' s.toks ⟨es[i], by simp [hi], rfl⟩ ⟨hit', (hs'.2 d hne).trans st.2⟩ hs'
  done := fun s Q E st hE => my_keyEnd hh st.1 st.2 hdd rfl (Nat.le_refl _) hE
set_option maxHeartbeats 1000000 in
theorem my_enumNew {v : Value} {o : Obj} {H : Heap → Prop} (B : Begins v o H) :
    Meets (Builtin.«enumerate.__new__» ⟨[.type "enumerate", v], []⟩) (fun _ R s => H s.heap ∧ R (.ok (.ret (.ref (s.heap.push o).objs.size))) { s with heap := (s.heap.push o).push { cls := .type "enumerate", data := .fields #[.none, .bool false, .ref s.heap.objs.size, rawInt 0, .none, .none] } }) :=
  .of_wp fun prog w A R s h => by
    obtain ⟨hp, g, dr, tk, os⟩ := s
    obtain ⟨h1, h⟩ := h
    have hsub := sub_enumerate
    have q1 : ∀ {A' : Around} {E Q : Value → Shared → Prop}, Q (.ref hp.objs.size) ⟨hp.push o, g, dr, tk, os⟩ → wpAny (model prog w) A' (pyIter v) Q E ⟨hp, g, dr, tk, os⟩ := fun q => B.iter prog w _ _ ⟨hp, g, dr, tk, os⟩ _ h1 q
    wp_walk using q1
    refine wpAny_stack_any fun _ => wpAny_pure ?_
    split
    · rename_i c _ _ _ _ _
      cases (c == Value.type "enumerate") <;> (wp_walk using q1; exact ⟨_, rfl, h⟩)
    · wp_walk using q1; exact ⟨_, rfl, h⟩
theorem my_enum {prog : Program} {w : World} {A : Around} {E : Value → Shared → Prop} {s : Shared} {v : Value} {o : Obj} {H : Heap → Prop} {Q : Value → Shared → Prop} (B : Begins v o H) (h1 : H s.heap)
    (h : ∀ h', IsEnum h' (s.heap.objs.size + 1) s.heap.objs.size 0 .none → h'.get? s.heap.objs.size = some o → (∀ b o, s.heap.get? b = some o → h'.get? b = some o) → Q (.ref (s.heap.objs.size + 1)) { s with heap := h' }) :
    wpAny (model prog w) A (call (.type "enumerate") [v]) Q E s := by
  refine callType_new F.called_enumerate (by decide) (F.typeCall_enumerate_1 _) (F.newCall_enumerate_1 _) (fun obj => F.args_object_init_2 obj _) F.entry_enumerate_new (my_enumNew B) ⟨h1, ?_⟩
  have hz : (s.heap.push o).objs.size = s.heap.objs.size + 1 := Heap.size_push ..
  have he := Heap.get?_push_size (s.heap.push o) (o := { cls := .type "enumerate", data := .fields #[.none, .bool false, .ref s.heap.objs.size, rawInt 0, .none, .none] }) rfl
  show _ ∧ _
  rw [hz] at he ⊢
  exact ⟨⟨_, he, rfl⟩, h _ he (Heap.get?_push_of_some _ (Heap.get?_push_size _ B.free)) fun b o x => Heap.get?_push_of_some _ (Heap.get?_push_of_some _ x)⟩
end PySem
end
section
set_option Elab.async false
set_option linter.all false
set_option maxRecDepth 100000
set_option maxHeartbeats 4000000
namespace L2.My
open PySem PySem.Spec PyProof.Rows
/-- the tuple at a, counted, each item in a new pair -/
def IteT (K : PySem.W.Frag) (a : Addr) : It :=
  ⟨fun i H => ∃ (xs : List V) (x : V), SqT K H a xs ∧ xs[i]? = some x, fun i H v H' => ∃ T x, v = .ref T ∧ H T = none ∧ H' = upd H T (.tup [.int (i : Nat), x]) ∧ ∀ xs, SqT K H a xs → xs[i]? = some x, fun i H => ∃ xs : List V, SqT K H a xs ∧ xs.length = i⟩
/-- the keys of the locked dict at d, counted -/
def IteK (d : Addr) (od : Obj) (kvs : List (List Key × V)) : It :=
  ⟨fun i H => H d = some (.frz od (.dT kvs)) ∧ i < kvs.length, fun i H v H' => ∃ T q k x, v = .ref T ∧ H T = none ∧ H' = upd H T (.tup [.int (i : Nat), .ref q]) ∧ kvs[i]? = some (k, x) ∧ H q = some (.tup (k.map kV)), fun i H => H d = some (.frz od (.dT kvs)) ∧ kvs.length = i⟩
section
variable {P : Program} {w : World} {K : PySem.W.Frag} {elts : List Expr} {kk : Nat} {tpos : Pos}
theorem turn_enT (a e it : Addr) : Turn P w K (.Tuple elts kk tpos) (IteT K a) [e, it] e (fun i h => (∃ old, IsEnum h e it ((i : Nat) : Int) old) ∧ h.IsTupleIter it a i ∧ e ≠ it ∧ a ≠ it ∧ a ≠ e) where
  mem := by simp
  obj := fun i h st b hb => by
    obtain ⟨⟨old, he⟩, ⟨o, ho, hc, hd⟩, _⟩ := st
    rcases (show b = e ∨ b = it by simpa using hb) with rfl | rfl
    · exact ⟨_, he, fun v q => nomatch q⟩
    · exact ⟨o, ho, fun v q => by rw [hd] at q; cases q⟩
  keep := fun i h h' st k => let ⟨⟨old, he⟩, hi, r⟩ := st; ⟨⟨old, k e (by simp) _ he⟩, hi.at fun o q => k it (by simp) o q, r⟩
  item := by
    intro X hP hw hK hc i pins s σ H E I hf st hg
    subst hP hw hK
    obtain ⟨⟨old, he⟩, hit, hne, hai, hae⟩ := st
    obtain ⟨xs, x, hq, hx⟩ := hg
    obtain ⟨its, rv, p, hz⟩ := I.tuple hq
    obtain ⟨u, hu, ru⟩ := rv.get hx
    have hel : e < s.heap.objs.size := Heap.lt_size he
    have hil : it < s.heap.objs.size := by obtain ⟨_, q, _⟩ := hit; exact Heap.lt_size q
    have lt : i < its.toArray.size := by
      have := (List.getElem?_eq_some_iff.mp hu).1
      simpa using this
    refine wpAny_pyNext_enum_itemC (Draws.tuple (prog := X.prog) (w := X.w) (A := X.A.in1) (I.ok.hd hc) it a hai its.toArray) he ⟨hit, p⟩ lt hne (by simp [hne, Ne.symm hae]) fun y h' tk hP ho hs' hT hsz hk => ?_
    obtain rfl : y = u := by
      have z : its.toArray[i]? = some u := by simpa using hu
      exact Option.some.inj (hP.symm.trans z)
    refine ⟨_, rfl, wpAny_letOwnedTupleGo_enum (s := { s with heap := h', toks := tk + 1 }) ho fun h2 he2 sb => ?_⟩
    have hT2 : h2.get? s.heap.objs.size = some { cls := .type "tuple", data := .seq #[.int i tk, y] } := (sb.2 _ (Nat.ne_of_gt hel)).trans hT
    have new : ObjOk X.prog X.w (upd H s.heap.objs.size (.tup [.int (i : Nat), x])) h2 s.heap.objs.size (.tup [.int (i : Nat), x]) := ⟨by show 2 ≤ sizeLine; decide, [.int i tk, y], .cons ⟨_, rfl⟩ (.cons ru .nil), ⟨_, hT2, rfl, _, rfl⟩⟩
    have I1 : Inv X pins σ (upd H s.heap.objs.size (.tup [.int (i : Nat), x])) { s with heap := h2, toks := tk + 1 } :=
      I.turnedNew (t' := tk + 1) (ch := [e, it]) (fun b ob hb q => (sb.2 b (fun z => hb (by simp [z]))).trans (hk b ob (fun z => hb (by simp [z])) (fun z => hb (by simp [z])) q)) hf (Nat.le_refl _) new
    refine ⟨.ref s.heap.objs.size, _, I1, rfl, ⟨_, x, rfl, I.hok.fresh (Nat.le_refl _), rfl, fun ys hy => by rw [I.tuple_inj hy hq]; exact hx⟩, ⟨⟨y, ?_⟩, hs'.1.at fun o q => (sb.2 it (Ne.symm hne)).trans q, hne, hai, hae⟩, fun b hb => ?_⟩
    · have e1 : ((i + 1 : Nat) : Int) = (i : Int) + 1 := by omega
      rw [e1]; exact he2
    · have hb' : b < s.heap.objs.size := by
        rcases (show b = e ∨ b = it by simpa using hb) with rfl | rfl
        · exact hel
        · exact hil
      rw [upd_ne (Nat.ne_of_lt hb')]
      exact (hf b hb).1
  done := by
    intro X hP hw hK hc i pins s σ H E I hf st hg
    subst hP hw hK
    obtain ⟨⟨old, he⟩, hit, hne, hai, hae⟩ := st
    obtain ⟨xs, hq, hx⟩ := hg
    obtain ⟨its, rv, p, hz⟩ := I.tuple hq
    obtain ⟨f0, f1, f2, f3, f4, f5⟩ := hf it (by simp)
    have hl := rv.length
    have ei : its.toArray.size = i := by simp; omega
    subst ei
    exact wpAny_pyNext_enum_endD (Draws.tuple (prog := X.prog) (w := X.w) (A := X.A.in1) (I.ok.hd hc) it a hai its.toArray) he ⟨hit, p⟩ fun h' eb => ⟨rfl, I.turned (t' := s.toks) (fun b o hb q => eb b o hb q) f0 f1 f3 f4 f5⟩
  self := fun A i s Q E st h => let ⟨⟨_, he⟩, _⟩ := st; wpAny_pyIter_enum he h
theorem turn_enK {d : Addr} {od : Obj} {es : Array DictEntry} {ep : Nat} {kvs : List (List Key × V)} (hdd : od.data = .dict es ep) (hsz : es.size = kvs.length) (e it : Addr) : Turn P w K (.Tuple elts kk tpos) (IteK d od kvs) [e, it] e (fun i h => (∃ old, IsEnum h e it ((i : Nat) : Int) old) ∧ h.IsKeyIter it d i es.size ep ∧ e ≠ it ∧ d ≠ it ∧ d ≠ e) where
  mem := by simp
  obj := fun i h st b hb => by
    obtain ⟨⟨old, he⟩, ⟨o, ho, hc, hd⟩, _⟩ := st
    rcases (show b = e ∨ b = it by simpa using hb) with rfl | rfl
    · exact ⟨_, he, fun v q => nomatch q⟩
    · exact ⟨o, ho, fun v q => by rw [hd] at q; cases q⟩
  keep := fun i h h' st k => let ⟨⟨old, he⟩, hi, r⟩ := st; ⟨⟨old, k e (by simp) _ he⟩, hi.at fun o q => k it (by simp) o q, r⟩
  item := by
    intro X hP hw hK hc i pins s σ H E I hf st hg
    subst hP hw hK
    obtain ⟨⟨old, he⟩, hit, hne, hai, hae⟩ := st
    obtain ⟨hd, hi⟩ := hg
    obtain ⟨hs, hgd, hx, es', ep', hdt, hsz', ent⟩ := I.frzT hd
    obtain ⟨ee1, ee2⟩ := dict_ep hdt hdd
    subst ee1 ee2
    obtain ⟨⟨k, x⟩, hkv⟩ : ∃ p, kvs[i]? = some p := ⟨kvs[i], List.getElem?_eq_getElem hi⟩
    obtain ⟨en, q, hen, hkey, hq⟩ := ent i k x hkv
    have hel : e < s.heap.objs.size := Heap.lt_size he
    have hil : it < s.heap.objs.size := by obtain ⟨_, q, _⟩ := hit; exact Heap.lt_size q
    refine wpAny_pyNext_enum_itemC (my_drawKeys (prog := X.prog) (w := X.w) (A := X.A.in1) (I.ok.hd hc) it d hai od es ep hdd) he ⟨hit, hgd⟩ (by omega) hne (by simp [hne, Ne.symm hae]) fun y h' tk hP ho hs' hT hsz2 hk => ?_
    obtain ⟨en2, hen2, rfl⟩ := hP
    rw [hen] at hen2
    cases hen2
    rw [hkey] at ho hT
    refine ⟨_, rfl, wpAny_letOwnedTupleGo_enum (s := { s with heap := h', toks := tk + 1 }) ho fun h2 he2 sb => ?_⟩
    have hT2 : h2.get? s.heap.objs.size = some { cls := .type "tuple", data := .seq #[.int i tk, .ref q] } := (sb.2 _ (Nat.ne_of_gt hel)).trans hT
    have new : ObjOk X.prog X.w (upd H s.heap.objs.size (.tup [.int (i : Nat), .ref q])) h2 s.heap.objs.size (.tup [.int (i : Nat), .ref q]) := ⟨by show 2 ≤ sizeLine; decide, [.int i tk, .ref q], .cons ⟨_, rfl⟩ (.cons rfl .nil), ⟨_, hT2, rfl, _, rfl⟩⟩
    have I1 : Inv X pins σ (upd H s.heap.objs.size (.tup [.int (i : Nat), .ref q])) { s with heap := h2, toks := tk + 1 } :=
      I.turnedNew (t' := tk + 1) (ch := [e, it]) (fun b ob hb q => (sb.2 b (fun z => hb (by simp [z]))).trans (hk b ob (fun z => hb (by simp [z])) (fun z => hb (by simp [z])) q)) hf (Nat.le_refl _) new
    refine ⟨.ref s.heap.objs.size, _, I1, rfl, ⟨_, q, k, x, rfl, I.hok.fresh (Nat.le_refl _), rfl, hkv, hq⟩, ⟨⟨.ref q, ?_⟩, hs'.1.at fun o q => (sb.2 it (Ne.symm hne)).trans q, hne, hai, hae⟩, fun b hb => ?_⟩
    · have e1 : ((i + 1 : Nat) : Int) = (i : Int) + 1 := by omega
      rw [e1]; exact he2
    · have hb' : b < s.heap.objs.size := by
        rcases (show b = e ∨ b = it by simpa using hb) with rfl | rfl
        · exact hel
        · exact hil
      rw [upd_ne (Nat.ne_of_lt hb')]
      exact (hf b hb).1
  done := by
    intro X hP hw hK hc i pins s σ H E I hf st hg
    subst hP hw hK
    obtain ⟨⟨old, he⟩, hit, hne, hai, hae⟩ := st
    obtain ⟨hd, hi⟩ := hg
    obtain ⟨hs, hgd, hx, es', ep', hdt, hsz', ent⟩ := I.frzT hd
    obtain ⟨ee1, ee2⟩ := dict_ep hdt hdd
    subst ee1 ee2
    obtain ⟨f0, f1, f2, f3, f4, f5⟩ := hf it (by simp)
    have ei : es.size = i := by omega
    subst ei
    exact wpAny_pyNext_enum_endD (my_drawKeys (prog := X.prog) (w := X.w) (A := X.A.in1) (I.ok.hd hc) it d hai od es ep hdd) he ⟨hit, hgd⟩ fun h' eb => ⟨rfl, I.turned (t' := s.toks) (fun b o hb q => eb b o hb q) f0 f1 f3 f4 f5⟩
  self := fun A i s Q E st h => let ⟨⟨_, he⟩, _⟩ := st; wpAny_pyIter_enum he h
end
def iEnT (K : PySem.W.Frag) (ta : TA) : TI := fun σ H R => ta σ H fun vs H1 => ∃ a xs, vs = [.ref a] ∧ SqT K H1 a xs ∧ R (IteT K a) H1
theorem pi_enT {X : Cx} {e : Expr} {ta : TA} {p pos tpos : Pos} {elts : List Expr} {kk : Nat} (hg : Gl X "enumerate") (hm : X.mg "enumerate" = none) (ha : PA X [e] ta) (hs : starEach [e] X.env = [(false, eval e X.env)] := by rfl) :
    PI X (.Tuple elts kk tpos) (.Call (.Name "enumerate" p) [e] [] pos) (iEnT X.K ta) := by
  refine ⟨fun pins s σ H R I h => ?_⟩
  refine Call_ (ld_blt I hg hm boot_enumerate (PyProof.Rows.callWith_type1 (thn (ha.run pos pins s σ H _ I h) fun us s1 ⟨vs, H1, I1, r1, q1⟩ => ?_) hs rfl))
  obtain ⟨a, xs, ex, hq, q⟩ := q1
  subst ex
  obtain ⟨u, rfl, rx⟩ := vals1 r1
  obtain rfl : u = Value.ref a := rx
  obtain ⟨its, rv, p', hz⟩ := I1.tuple hq
  have lta : a < s1.heap.objs.size := by obtain ⟨_, e1, _⟩ := p'; exact Heap.lt_size e1
  refine my_enum (begins_tuple a its.toArray) p' fun h' he hit hk => wpAny_pyIter_enum he ?_
  have I2 : Inv X pins σ H1 { s1 with heap := h' } := I1.kept (t' := s1.toks) hk
  refine ⟨s1.heap.objs.size + 1, [s1.heap.objs.size + 1, s1.heap.objs.size], _, _, H1, rfl, I2, turn_enT a (s1.heap.objs.size + 1) s1.heap.objs.size, ⟨⟨.none, he⟩, ⟨_, hit, rfl, rfl⟩, Nat.succ_ne_self _, Nat.ne_of_lt lta, Nat.ne_of_lt (Nat.lt_succ_of_lt lta)⟩, fun b hb => ?_, q⟩
  have hle : s1.heap.objs.size ≤ b := by
    rcases (show b = s1.heap.objs.size + 1 ∨ b = s1.heap.objs.size by simpa using hb) with z | z <;> rw [z] <;> first | exact Nat.le_succ _ | exact Nat.le_refl _
  exact I1.fpOk hle (I1.hok.fresh hle)
theorem walk_enT {K : PySem.W.Frag} {a : Addr} {xs : List V} : Walk (IteT K a) xs.length (fun H => SqT K H a xs) (YPair (fun i => some (.int (i : Nat))) (fun i => xs[i]?)) :=
  ⟨fun i _ hi q => ⟨xs, xs[i], q, by simp [hi]⟩, fun _ q => ⟨xs, q, rfl⟩, fun i H v H' _ q ⟨T, x, h1, h2, h3, h4⟩ => ⟨T, .int (i : Nat), x, h1, h2, h3, rfl, h4 xs q⟩⟩
def iEnK (ta : TA) : TI := fun σ H R => ta σ H fun vs H1 => ∃ d o kvs, vs = [.ref d] ∧ H1 d = some (.frz o (.dT kvs)) ∧ R (IteK d o kvs) H1
theorem begins_keys {d : Addr} {od : Obj} {es : Array DictEntry} {ep : Nat} (hs : (d == sysModules) = false) (hx : od.ExactDict) (hdd : od.data = .dict es ep) : Begins (.ref d) { cls := .type "dict_keyiterator", data := .fields #[.ref d, .int 0 0, .int es.size 0, .int ep 0] } fun h => h.get? d = some od where
  iter := fun prog w A E s Q h1 h => iter_keys hs h1 hx hdd h
  keeps := fun h h' x hk => hk d _ x
  free := rfl
theorem pi_enK {X : Cx} {e : Expr} {ta : TA} {p pos tpos : Pos} {elts : List Expr} {kk : Nat} (hg : Gl X "enumerate") (hm : X.mg "enumerate" = none) (ha : PA X [e] ta) (hs : starEach [e] X.env = [(false, eval e X.env)] := by rfl) :
    PI X (.Tuple elts kk tpos) (.Call (.Name "enumerate" p) [e] [] pos) (iEnK ta) := by
  refine ⟨fun pins s σ H R I h => ?_⟩
  refine Call_ (ld_blt I hg hm boot_enumerate (PyProof.Rows.callWith_type1 (thn (ha.run pos pins s σ H _ I h) fun us s1 ⟨vs, H1, I1, r1, q1⟩ => ?_) hs rfl))
  obtain ⟨d, od, kvs, ex, hq, q⟩ := q1
  subst ex
  obtain ⟨u, rfl, rx⟩ := vals1 r1
  obtain rfl : u = Value.ref d := rx
  obtain ⟨hsm, hgd, hx, es, ep, hdt, hsz, ent⟩ := I1.frzT hq
  have ltd : d < s1.heap.objs.size := Heap.lt_size hgd
  refine my_enum (begins_keys hsm hx hdt) hgd fun h' he hit hk => wpAny_pyIter_enum he ?_
  have I2 : Inv X pins σ H1 { s1 with heap := h' } := I1.kept (t' := s1.toks) hk
  refine ⟨s1.heap.objs.size + 1, [s1.heap.objs.size + 1, s1.heap.objs.size], _, _, H1, rfl, I2, turn_enK hdt hsz (s1.heap.objs.size + 1) s1.heap.objs.size, ⟨⟨.none, he⟩, ⟨_, hit, rfl, rfl⟩, Nat.succ_ne_self _, Nat.ne_of_lt ltd, Nat.ne_of_lt (Nat.lt_succ_of_lt ltd)⟩, fun b hb => ?_, q⟩
  have hle : s1.heap.objs.size ≤ b := by
    rcases (show b = s1.heap.objs.size + 1 ∨ b = s1.heap.objs.size by simpa using hb) with z | z <;> rw [z] <;> first | exact Nat.le_succ _ | exact Nat.le_refl _
  exact I1.fpOk hle (I1.hok.fresh hle)
theorem walk_enK {d : Addr} {od : Obj} {kvs : List (List Key × V)} : Walk (IteK d od kvs) kvs.length (fun H => H d = some (.frz od (.dT kvs))) (fun i H v H' => ∃ T q k x, v = .ref T ∧ H T = none ∧ H' = upd H T (.tup [.int (i : Nat), .ref q]) ∧ kvs[i]? = some (k, x) ∧ H q = some (.tup (k.map kV))) :=
  ⟨fun i _ hi q => ⟨q, hi⟩, fun _ q => ⟨q, rfl⟩, fun i H v H' _ q y => y⟩
end L2.My
end
section
set_option Elab.async false
set_option linter.all false
set_option maxRecDepth 100000
set_option maxHeartbeats 4000000
namespace L2.My
open PySem PySem.Spec PyProof.Rows
section
variable {X : Cx} {pins : List (Addr × Obj)} {σ : St} {H : Hp} {s : Shared} {a b : Addr} {v : V} {r : Value} {A : Around} {E : Value → Shared → Prop} {kvs : List (List Key × V)} {k : List Key}
theorem d_dictSetT {Q : Unit → Shared → Prop} (hu : A.units + 2 < cLine) (I : Inv X pins σ H s) (e : H a = some (.dT kvs)) (eb : H b = some (.tup (k.map kV))) (hz : kvs.length < sizeLine) (rv : RelV v r)
    (h : ∀ s', Inv X pins σ (upd H a (.dT (putK kvs k v))) s' → Q () s') : wpAny (model X.prog X.w) A (dictSet a (.ref b) r) Q E s := by
  obtain ⟨z, hd, xs, rel, dd⟩ := dt_of I.hok e
  have zx : xs.length ≤ sizeLine := by rw [← Paired.length rel]; exact z
  have hl : (putK kvs k v).length ≤ sizeLine := by have := length_putK kvs k v; omega
  refine wpAny_dictSet_heap (hsz := zx) (show A.units < cLine by omega) (key_of I.hok eb) dd fun h' dd' hs => h _ ?_
  obtain ⟨q, es, ep, hq, h2, h3, h4, _, h5⟩ := dd'
  refine d_write I (by rw [e]; exact True.intro) hs ⟨q, hq⟩ ⟨hl, hd, _, (rel.put k eb rv).keeps fun c ys ec => ?_, q, es, ep, hq, h2, h3, h4, h5⟩
  rw [upd_ne (ne_of ec e (fun z => nomatch z))]
  exact ec
theorem d_setdT {d : V} {Q : Value → Shared → Prop} (hu : A.units + 2 < cLine) (I : Inv X pins σ H s) (e : H a = some (.dT kvs)) (eb : H b = some (.tup (k.map kV))) (hz : kvs.length < sizeLine) (rd : RelV d r)
    (h1 : ∀ v, valV kvs k = some v → ∀ (w' : Value) (s' : Shared), Inv X pins σ H s' → RelV v w' → Q w' s') (h2 : valV kvs k = none → ∀ (w' : Value) (s' : Shared), Inv X pins σ (upd H a (.dT (putK kvs k d))) s' → RelV d w' → Q w' s') :
    wpAny (model X.prog X.w) A (call (.builtin "dict.setdefault") [.ref a, .ref b, r]) Q E s := by
  obtain ⟨z, hd, xs, rel, dd⟩ := dt_of I.hok e
  have zx : xs.length ≤ sizeLine := by rw [← Paired.length rel]; exact z
  have q := rel.val k
  refine call_setdefault_heap (show A.units + 1 < cLine by omega) (key_of I.hok eb) hd dd (fun p hp => ?_) (fun hn h' dd' hs => ?_) zx
  · rw [hp] at q
    cases q0 : valV kvs k with
    | none => rw [q0] at q; exact (show False from q).elim
    | some v0 => rw [q0] at q; exact h1 v0 q0 _ _ (I.tok _) q
  · rw [hn] at q
    cases q0 : valV kvs k with
    | some v0 => rw [q0] at q; exact (show False from q).elim
    | none =>
      have hl : (putK kvs k d).length ≤ sizeLine := by have := length_putK kvs k d; omega
      obtain ⟨o, es, ep, hq, e2, e3, e4, _, e5⟩ := dd'
      have J : ObjOk X.prog X.w (upd H a (.dT (putK kvs k d))) h' a (.dT (putK kvs k d)) := ⟨hl, hd, _, (rel.put k eb rd).keeps fun c ys ec => (by
        rw [upd_ne (ne_of ec e (fun z => nomatch z))]
        exact ec), o, es, ep, hq, e2, e3, e4, e5⟩
      exact h2 q0 _ _ (d_write I (by rw [e]; exact True.intro) hs ⟨o, hq⟩ J) rd
end
/-- d.setdefault(y, z), tuple keys -/
def tDSetT (td ty tx : TE) : TE := fun σ H Q => td σ H fun x H1 => ∃ a, x = .ref a ∧ IsD H1 a ∧ ty σ H1 fun y H2 => tx σ H2 fun z H3 => ∃ (kvs : List (List Key × V)) (k : List Key) (b : Addr), H3 a = some (.dT kvs) ∧ y = .ref b ∧ H3 b = some (.tup (k.map kV)) ∧ kvs.length < sizeLine ∧
  (∀ v, valV kvs k = some v → Q v H3) ∧ (valV kvs k = none → Q z (upd H3 a (.dT (putK kvs k z))))
section
variable {X : Cx} {o e f : Expr} {td ty tx : TE} {apos cpos : Pos}
theorem pe_dsetT (hu : X.A.units + 2 < cLine) (ho : PE X o td) (he : PE X e ty) (hf : PE X f tx) (m : M2 X o "setdefault" apos e f cpos) : PE X (.Call (.Attribute o "setdefault" apos) [e, f] [] cpos) (tDSetT td ty tx) := by
  refine ⟨fun pins s σ H Q I h => ?_⟩
  refine wpAny_Call_method m.base m.few m.line PySem.F.plainAttrs_dict PySem.F.slot_dict_setdefault PySem.F.type_dict_setdefault (thn (ho.run pins s σ H _ I h) fun u s1 ⟨x, H1, I1, rx, a, ex, d, q1⟩ => ?_)
  subst ex
  obtain rfl : u = Value.ref a := rx
  obtain ⟨t1, t2, _⟩ := isD_at I1 d
  refine ⟨t1, t2, ?_⟩
  rw [m.trees]
  refine Calls.callWith_builtin rfl (Calls.evalArgs_plain (Calls.spliced_cons (thn (he.run pins s1 σ H1 _ I1 q1) fun iv s2 ⟨y, H2, I2, ry, q2⟩ => Calls.spliced_cons (thn (hf.run pins s2 σ H2 _ I2 q2) fun fv s3 ⟨z, H3, I3, rz, kvs, k, b, ea, ey, eb, hl, q3, q4⟩ => Calls.spliced_nil ?_))))
  subst ey
  obtain rfl : iv = Value.ref b := ry
  exact d_setdT hu I3 ea eb hl rz (fun v hv w' s4 I4 rw' => ⟨v, _, I4, rw', q3 v hv⟩) fun hn w' s4 I4 rw' => ⟨z, _, I4, rw', q4 hn⟩
end
/-! ### a comprehension -/
def tDcT (wi : TI) (g : TG) (tt : TT) (tk tv : TE) (vs : List Nat) : TE := fun σ H Q => wi σ H fun J H1 => ∀ D, H1 D = none → ∃ W : Nat → Nat → Hp → Prop, (∃ m, W 0 m (upd H1 D (.dT []))) ∧ ∀ i m H, W i m H →
  (J.stop i H ∧ Q (.ref D) H) ∨ (J.go i H ∧ ∃ Nx : Hp → Prop, (∀ H', Nx H' → ∃ m', m' < m ∧ W (i + 1) m' H') ∧ ∀ x H', J.yld i H x H' → g x (wipe σ vs) H' fun σ2 H2 => wipe σ2 vs = wipe σ vs ∧ tt σ2 H2 fun b H3 =>
    if b = true then tk σ2 H3 fun y H4 => tv σ2 H4 fun z H5 => ∃ kvs k b, y = .ref b ∧ H5 D = some (.dT kvs) ∧ H5 b = some (.tup (k.map kV)) ∧ kvs.length < sizeLine ∧ Nx (upd H5 D (.dT (putK kvs k z))) else Nx H3)
section
variable {X : Cx}
theorem dc_coreT {pins : List (Addr × Obj)} {s : Shared} {σ : St} {H : Hp} {Q : VK} {kx vx tg iter : Expr} {ifs : List Expr} {scope : Scope} {own : List (Str × Nat)} {pos pos' : Pos} {wi : TI} {g : TG} {tt : TT} {tk tv : TE} {use : Option (Value → Sem Unit)} {Qf : Value → Shared → Prop}
    (hu : X.A.units + 2 < cLine) (hc : X.calm = true) (hN : X.N.Nodup) (I : Inv X pins σ H s) (hi : PI X tg iter wi) (ok : BlkOk X.N X.env.scope scope own)
    (hg : ∀ (s : Shared) (H : Hp) (C : Addr) (cl : List (Str × Addr)) (fp : List Addr), PG (X.blk s H scope (compEnvC scope cl C X.env) fp) tg g) (ht : ∀ (s : Shared) (H : Hp) (C : Addr) (cl : List (Str × Addr)) (fp : List Addr), PTs (X.blk s H scope (compEnvC scope cl C X.env) fp) ifs tt)
    (hk : ∀ (s : Shared) (H : Hp) (C : Addr) (cl : List (Str × Addr)) (fp : List Addr), PE (X.blk s H scope (compEnvC scope cl C X.env) fp) kx tk)
    (he : ∀ (s : Shared) (H : Hp) (C : Addr) (cl : List (Str × Addr)) (fp : List Addr), PE (X.blk s H scope (compEnvC scope cl C X.env) fp) vx tv) (hs : ∀ x, foldedSetIterable iter X.env x = pure x)
    (h : tDcT wi g tt tk tv (own.map (·.2)) σ H Q)
    (hRR : ∀ D C s' m H', Inv X pins σ H' s' → Q (.ref D) H' → s'.heap.Ns C m → FpOk X pins H' C → compPost (model X.prog X.w) X.A X.xe use Qf (.ref D) C (.ok .next) s') :
    wpAny (model X.prog X.w) X.A (comprehension (.DictComp kx vx [⟨tg, iter, ifs, 0⟩] scope pos) scope X.env pos' newDict false (eval iter X.env) use) Qf X.xe s := by
  have hfree : ∀ y ∈ scope.names, y.2 = .free → ∃ c, X.env.cells.lookup y.1 = some c := fun y hy e => by
    rcases ok.free y hy e with k | k
    · exact I.ok.has _ (.inl k)
    · exact I.ok.has _ (.inr k)
  refine wpAny_comprehension_free (use := use) rfl hs (closure_ok hfree) ok.kind (fun y hy e => by rw [ok.uniq y hy, e])
    (thn (hi.run pins s σ H _ I h) fun xv s1 hx => thn hx fun itv s2 h2 => ?_)
  obtain ⟨it, fp, tn, J, H2, e, I2, T, st2, f2, q⟩ := h2
  subst e
  refine wpAny_newObj_type (newEnv_comp ?_)
  generalize hD : s2.heap.objs.size = D
  have hDn : H2 D = none := I2.hok.fresh (Nat.le_of_eq hD)
  obtain ⟨W, ⟨m0, w0⟩, turn⟩ := q D hDn
  -- the new list
  generalize hs3 : ({ s2 with heap := s2.heap.push { cls := .type "dict", data := .dict #[] } } : Shared) = s3
  have I3 : Inv X pins σ (upd H2 D (.dT [])) s3 := by
    rw [← hs3]
    refine I2.laid (t' := s2.toks) (fun b o e => Heap.get?_push_of_some _ e) (Nat.le_of_eq hD) ?_
    rw [← hD]
    exact dt_empty s2.heap I2.big
  have h3 : s3.heap = s2.heap.push { cls := .type "dict", data := .dict #[] } := by rw [← hs3]
  have sz : ∀ b ∈ fp, b < s2.heap.objs.size := fun b hb => by
    obtain ⟨o, e, _⟩ := T.obj _ _ st2 b hb
    exact Heap.lt_size e
  have f3 : ∀ b ∈ fp, FpOk X pins (upd H2 D (.dT [])) b ∧ b < s3.heap.objs.size := fun b hb => by
    have hlt := sz b hb
    refine ⟨⟨?_, (f2 b hb).2⟩, by rw [h3, Heap.size_push]; exact Nat.lt_succ_of_lt hlt⟩
    rw [upd_ne (by rw [← hD]; exact Nat.ne_of_lt hlt)]
    exact (f2 b hb).1
  have st3 : tn 0 s3.heap := T.keep _ _ _ st2 fun b _ o e => by rw [h3]; exact Heap.get?_push_of_some _ e
  have I4 := block_start I3 ok hN f3
  have pg := hg s3 (upd H2 D (.dT [])) s3.heap.objs.size (cellsFrom (s3.heap.objs.size + 1) scope.names (cloFrom X.env.cells scope.names [])) fp
  have pt := ht s3 (upd H2 D (.dT [])) s3.heap.objs.size (cellsFrom (s3.heap.objs.size + 1) scope.names (cloFrom X.env.cells scope.names [])) fp
  have pk := hk s3 (upd H2 D (.dT [])) s3.heap.objs.size (cellsFrom (s3.heap.objs.size + 1) scope.names (cloFrom X.env.cells scope.names [])) fp
  have pe := he s3 (upd H2 D (.dT [])) s3.heap.objs.size (cellsFrom (s3.heap.objs.size + 1) scope.names (cloFrom X.env.cells scope.names [])) fp
  show codeAny _ _ (.compStart (.DictComp kx vx [⟨tg, iter, ifs, 0⟩] scope pos) 0 (.ref it) (.ref D) (compEnvC scope (cellsFrom (s3.heap.objs.size + 1) scope.names (cloFrom X.env.cells scope.names [])) s3.heap.objs.size X.env)) (compPost (model X.prog X.w) X.A X.xe use Qf (.ref D) s3.heap.objs.size) { s3 with heap := pushCells (s3.heap.push { cls := .type "dict", data := .dict #[] }) scope.names }
  have nfp : ∀ b ∈ fp, (upd H2 D (.dT [])) b = none := fun b hb => (f3 b hb).1.1
  generalize hce : compEnvC scope (cellsFrom (s3.heap.objs.size + 1) scope.names (cloFrom X.env.cells scope.names [])) s3.heap.objs.size X.env = ce at I4 pg pt pk pe ⊢
  have cL : ce.locals = s3.heap.objs.size := by subst hce; rfl
  generalize hH3 : upd H2 D (.dT []) = H3 at I3 I4 pg pt pk pe w0 nfp f3
  generalize hs4 : ({ s3 with heap := pushCells (s3.heap.push { cls := .type "dict", data := .dict #[] }) scope.names } : Shared) = s4 at I4 ⊢
  have st4 : tn 0 s4.heap := T.keep _ _ _ st3 fun b _ o e => by rw [← hs4]; exact pushCells_keeps _ _ _ _ (Heap.get?_push_of_some _ e)
  have stat : ∀ {σ' : St} {H' : Hp} {s' : Shared}, Inv (X.blk s3 H3 scope ce fp) [] σ' H' s' → (∀ b ∈ fp, H' b = none) → ∀ b ∈ fp, FpOk (X.blk s3 H3 scope ce fp) [] H' b := fun {σ' H' s'} I' hn b hb =>
    ⟨hn b hb, (I'.ok.exf b hb).1, I'.ok.exfs b hb, .inl hb, fun x c e => (I'.ok.exf b hb).2 x c e, fun p hp => absurd (show p ∈ ([] : List (Addr × Obj)) ++ [] from hp) (by simp)⟩
  have loop : codeAny (model X.prog X.w) X.A (.compLoop (.DictComp kx vx [⟨tg, iter, ifs, 0⟩] scope pos) 0 (.ref it) (.ref D) ce) (compPost (model X.prog X.w) X.A X.xe use Qf (.ref D) s3.heap.objs.size) s4 := by
    refine compLoop_anyD (fun n s' => ∃ i H', Inv (X.blk s3 H3 scope ce fp) [] (wipe σ (own.map (·.2))) H' s' ∧ tn i s'.heap ∧ (∀ b ∈ fp, H' b = none) ∧ W i n H') ?_ m0 ⟨0, H3, I4, st4, nfp, w0⟩
    rintro n s5 ⟨i, H5, I5, st5, n5, w5⟩
    rcases turn i n H5 w5 with ⟨stop, qq⟩ | ⟨go, Nx, hNx, step⟩
    · have td := T.done (X.blk s3 H3 scope ce fp) rfl rfl rfl hc i [] s5 _ H5 (fun _ _ => False) I5 (stat I5 n5) st5 stop
      refine thnF td fun r s6 ⟨hr, I6⟩ => ?_
      subst hr
      -- back in the def's context
      have I7 : Inv X pins σ H5 s6 := I3.call' (ch := fp) I6.os I6.base I6.hok I6.bare fun b hb => ⟨(f3 b hb).1.2.2.2.1, (f3 b hb).1.2.1, (f3 b hb).1.2.2.2.2.1, (f3 b hb).1.2.2.2.2.2⟩
      have nC : H5 s3.heap.objs.size = none := by
        have z : H5 ce.locals = none := I6.free
        rw [cL] at z
        exact z
      obtain ⟨m, hn, _⟩ := I6.loc
      have hn : s6.heap.Ns ce.locals m := hn
      rw [cL] at hn
      exact hRR D s3.heap.objs.size s6 m H5 I7 qq hn (I3.fpOk (Nat.le_refl _) nC)
    · have ti := T.item (X.blk s3 H3 scope ce fp) rfl rfl rfl hc i [] s5 _ H5 (fun _ _ => False) I5 (stat I5 n5) st5 go
      refine thnF ti fun r s6 ⟨u, hr, h6⟩ => ?_
      subst hr
      refine thnF h6 fun _ s7 ⟨x, H7, I7, r7, y7, st7, n7⟩ => ?_
      have I7' := I7.pinned (stat I7 n7) (T.obj _ _ st7)
      refine thnF (pg.run _ s7 _ H7 x u _ I7' r7 (step x H7 y7)) fun _ s8 ⟨σ8, H8, I8, hw8, q8⟩ => ?_
      refine thnF (pt.run _ s8 σ8 H8 _ I8 q8) fun b s9 ⟨H9, I9, q9⟩ => ?_
      -- the turn's end
      have fin : ∀ {s' : Shared} {H' : Hp}, Inv (X.blk s3 H3 scope ce fp) ([] ++ pinsAt fp s7.heap) σ8 H' s' → Nx H' → ∃ m, m < n ∧ ∃ i H', Inv (X.blk s3 H3 scope ce fp) [] (wipe σ (own.map (·.2))) H' s' ∧ tn i s'.heap ∧ (∀ b ∈ fp, H' b = none) ∧ W i m H' := fun {s' H'} I' nx => by
        obtain ⟨m', hm, w'⟩ := hNx H' nx
        have pin' : ∀ b ∈ fp, ∀ o, s7.heap.get? b = some o → s'.heap.get? b = some o ∧ H' b = none := fun b hb o e =>
          let z := I'.pin (b, o) (List.mem_append_right _ (List.mem_append_right _ (mem_pinsAt hb e)))
          ⟨z.1, z.2.1⟩
        have hl : (wipe σ (own.map (·.2))).length = σ8.length := by rw [← hw8, wipe_length]
        refine ⟨m', hm, i + 1, H', (I'.unpinned (pins := [])).weak hl (fun j v e => ?_), T.keep _ _ _ st7 fun b hb o e => (pin' b hb o e).1, fun b hb => ?_, w'⟩
        · rw [← hw8] at e
          exact (wipe_some e).1
        · obtain ⟨o, e, _⟩ := T.obj _ _ st7 b hb
          exact (pin' b hb o e).2
      cases b with
      | false =>
        simp only [Bool.false_eq_true, if_false] at q9 ⊢
        exact fin I9 q9
      | true =>
        simp only [if_true] at q9 ⊢
        refine thnF (pk.run _ s9 σ8 H9 _ I9 q9) fun z s10 ⟨yk, H10, I10, r10, q10⟩ => ?_
        refine thnF (pe.run _ s10 σ8 H10 _ I10 q10) fun z2 s11 ⟨yv, H11, I11, r11, kvs, k, b, ek, hD11, hb11, hz11, nx⟩ => ?_
        subst ek
        obtain rfl : z = Value.ref b := r10
        exact d_dictSetT (X := X.blk s3 H3 scope ce fp) hu I11 hD11 hb11 hz11 r11 fun s12 I12 => fin I12 nx
  exact codeAny_compStart_dict loop (T.self X.A 0 _ _ _ st4 loop)
/-- as a value -/
theorem pe_dcT {kx vx tg iter : Expr} {ifs : List Expr} {scope : Scope} {own : List (Str × Nat)} {pos : Pos} {wi : TI} {g : TG} {tt : TT} {tk tv : TE} (hu : X.A.units + 2 < cLine) (hc : X.calm = true) (hN : X.N.Nodup) (hi : PI X tg iter wi) (ok : BlkOk X.N X.env.scope scope own)
    (hg : ∀ (s : Shared) (H : Hp) (C : Addr) (cl : List (Str × Addr)) (fp : List Addr), PG (X.blk s H scope (compEnvC scope cl C X.env) fp) tg g) (ht : ∀ (s : Shared) (H : Hp) (C : Addr) (cl : List (Str × Addr)) (fp : List Addr), PTs (X.blk s H scope (compEnvC scope cl C X.env) fp) ifs tt)
    (hk : ∀ (s : Shared) (H : Hp) (C : Addr) (cl : List (Str × Addr)) (fp : List Addr), PE (X.blk s H scope (compEnvC scope cl C X.env) fp) kx tk)
    (he : ∀ (s : Shared) (H : Hp) (C : Addr) (cl : List (Str × Addr)) (fp : List Addr), PE (X.blk s H scope (compEnvC scope cl C X.env) fp) vx tv) (hs : ∀ x, foldedSetIterable iter X.env x = pure x := by intro _; rfl) :
    PE X (.DictComp kx vx [⟨tg, iter, ifs, 0⟩] scope pos) (tDcT wi g tt tk tv (own.map (·.2))) := by
  refine ⟨fun pins s σ H Q I h => ?_⟩
  rw [arm_eval_DictComp]
  refine dc_coreT hu hc hN I hi ok hg ht hk he hs h fun D C s' m H' I' q hn f => ⟨m, hn, fun h'' sb => ?_⟩
  obtain ⟨f0, f1, f2, f3, f4, f5⟩ := f
  exact ⟨.ref D, H', I'.turned (t' := s'.toks) (fun b o hb e => (sb.2 b hb).trans e) f0 f1 f3 f4 f5, rfl, q⟩
end
end L2.My
end
section
set_option Elab.async false
set_option linter.all false
set_option maxRecDepth 100000
set_option maxHeartbeats 4000000
/-! The mathematics of rules: what can be derived, rounds, bits. -/
namespace L2.My
open PySem PySem.Spec PyProof.Rows
abbrev Fc : Type := List Key
abbrev Cz : Type := List Fc × Fc
instance memDec (f : Fc) (a : List Fc) : Decidable (f ∈ a) := @List.instDecidableMemOfLawfulBEq Fc instBEqOfDecidableEq inferInstance f a
/-- derived of grounds by clauses, one left out -/
inductive Der (cs : List Cz) (G : Fc → Prop) (ex : Option Nat) : Fc → Prop where
  | gr {f : Fc} (h : G f) : Der cs G ex f
  | cl {i : Nat} {b : List Fc} {h : Fc} (e : cs[i]? = some (b, h)) (n : ex ≠ some i) (hb : ∀ x ∈ b, Der cs G ex x) : Der cs G ex h
theorem Der.closed {cs : List Cz} {G : Fc → Prop} {ex : Option Nat} {S : Fc → Prop} (hg : ∀ f, G f → S f) (hc : ∀ i b h, cs[i]? = some (b, h) → ex ≠ some i → (∀ x ∈ b, S x) → S h) {f : Fc} (d : Der cs G ex f) : S f := by
  induction d with
  | gr h => exact hg _ h
  | cl e n _ ih => exact hc _ _ _ e n ih
theorem Der.none {cs : List Cz} {G : Fc → Prop} {ex : Option Nat} {f : Fc} (d : Der cs G ex f) : Der cs G none f := by
  induction d with
  | gr h => exact .gr h
  | cl e n _ ih => exact .cl e (fun z => nomatch z) ih
/-! ### unlike items -/
def dk (b : List Fc) : List Fc := b.foldl (fun a f => if f ∈ a then a else a ++ [f]) []
theorem dk_gen : ∀ (b a : List Fc), a.Nodup → (b.foldl (fun a f => if f ∈ a then a else a ++ [f]) a).Nodup ∧ ∀ x, x ∈ b.foldl (fun a f => if f ∈ a then a else a ++ [f]) a ↔ x ∈ a ∨ x ∈ b
  | [], a, h => ⟨h, fun x => by simp⟩
  | f :: r, a, h => by
    rw [List.foldl_cons]
    by_cases hf : f ∈ a
    · rw [if_pos hf]
      obtain ⟨h1, h2⟩ := dk_gen r a h
      refine ⟨h1, fun x => ?_⟩
      rw [h2 x, List.mem_cons]
      constructor
      · rintro (z | z)
        · exact .inl z
        · exact .inr (.inr z)
      · rintro (z | rfl | z)
        · exact .inl z
        · exact .inl hf
        · exact .inr z
    · rw [if_neg hf]
      obtain ⟨h1, h2⟩ := dk_gen r (a ++ [f]) (by
        rw [List.nodup_append]
        exact ⟨h, by simp, fun x hx y hy => by rw [List.mem_singleton] at hy; rw [hy]; rintro rfl; exact hf hx⟩)
      refine ⟨h1, fun x => ?_⟩
      rw [h2 x, List.mem_append, List.mem_singleton, List.mem_cons, or_assoc]
theorem dk_nodup (b : List Fc) : (dk b).Nodup := (dk_gen b [] List.nodup_nil).1
theorem mem_dk {b : List Fc} {x : Fc} : x ∈ dk b ↔ x ∈ b := by
  have := (dk_gen b [] List.nodup_nil).2 x
  rw [show dk b = b.foldl (fun a f => if f ∈ a then a else a ++ [f]) [] from rfl, this]
  simp
/-- how many unlike ones of a body are not there -/
def lackB (b F : List Fc) : Nat := ((dk b).filter fun x => decide (x ∉ F)).length
theorem filter_snoc {l F : List Fc} {f : Fc} (nd : l.Nodup) (hf : f ∉ F) : (l.filter fun x => decide (x ∉ F ++ [f])).length + (if f ∈ l then 1 else 0) = (l.filter fun x => decide (x ∉ F)).length := by
  induction l with
  | nil => simp
  | cons a r ih =>
    rw [List.nodup_cons] at nd
    have ih := ih nd.2
    by_cases ha : a = f
    · subst ha
      have h1 : ¬ (decide (a ∉ F ++ [a]) = true) := by simp
      have h2 : decide (a ∉ F) = true := by simp [hf]
      rw [List.filter_cons_of_neg (p := fun x => decide (x ∉ F ++ [a])) h1, List.filter_cons_of_pos (p := fun x => decide (x ∉ F)) h2, List.length_cons, if_pos List.mem_cons_self]
      rw [if_neg nd.1] at ih
      omega
    · have hm : (f ∈ a :: r) ↔ f ∈ r := by
        rw [List.mem_cons]
        exact ⟨fun z => z.resolve_left fun e => ha e.symm, .inr⟩
      by_cases h3 : a ∈ F
      · have h1 : ¬ (decide (a ∉ F ++ [f]) = true) := by simp [h3]
        have h2 : ¬ (decide (a ∉ F) = true) := by simp [h3]
        rw [List.filter_cons_of_neg (p := fun x => decide (x ∉ F ++ [f])) h1, List.filter_cons_of_neg (p := fun x => decide (x ∉ F)) h2]
        simp only [hm]
        exact ih
      · have h1 : decide (a ∉ F ++ [f]) = true := by simp [h3, ha]
        have h2 : decide (a ∉ F) = true := by simp [h3]
        rw [List.filter_cons_of_pos (p := fun x => decide (x ∉ F ++ [f])) h1, List.filter_cons_of_pos (p := fun x => decide (x ∉ F)) h2, List.length_cons, List.length_cons]
        simp only [hm]
        omega
theorem lackB_snoc {b F : List Fc} {f : Fc} (hf : f ∉ F) : lackB b (F ++ [f]) + (if f ∈ b then 1 else 0) = lackB b F := by
  have := filter_snoc (dk_nodup b) hf
  simp only [mem_dk] at this
  exact this
theorem lackB_zero {b F : List Fc} : lackB b F = 0 ↔ ∀ x ∈ b, x ∈ F := by
  unfold lackB
  rw [List.length_eq_zero_iff, List.filter_eq_nil_iff]
  constructor
  · intro h x hx
    have := h x (mem_dk.mpr hx)
    simpa using this
  · intro h x hx
    simp [h x (mem_dk.mp hx)]
theorem lackB_nil (b : List Fc) : lackB b [] = (dk b).length := by
  unfold lackB
  rw [List.filter_eq_self.mpr]
  intro x _
  simp
/-! ### bits -/
def bit : Int → Nat → Bool
  | v, 0 => decide (v % 2 = 1)
  | v, c + 1 => bit (v / 2) c
theorem bit_eq : ∀ (c : Nat) (v : Int), bit v c = decide (v / 2 ^ c % 2 = 1)
  | 0, v => by simp [bit]
  | c + 1, v => by
    rw [bit, bit_eq c, Int.ediv_ediv, if_neg (fun z => absurd z.1 (by decide)), Int.sub_zero, Int.pow_succ, Int.mul_comm (2 ^ c) 2]
theorem bit_and : ∀ (c : Nat) (x y : Int), bit (Builtin.bitAnd x y) c = (bit x c && bit y c)
  | 0, x, y => by
    have h := PySem.W.kbt_halves x y
    unfold bit
    by_cases h1 : x % 2 = 1
    · by_cases h2 : y % 2 = 1
      · rw [if_pos ⟨h1, h2⟩] at h
        rw [decide_eq_true h1, decide_eq_true h2, decide_eq_true (by omega)]; rfl
      · rw [if_neg (fun z => h2 z.2)] at h
        rw [decide_eq_true h1, decide_eq_false h2, decide_eq_false (by omega)]; rfl
    · rw [if_neg (fun z => h1 z.1)] at h
      rw [decide_eq_false h1, decide_eq_false (by omega)]; rfl
  | c + 1, x, y => by
    have h := PySem.W.kbt_halves x y
    have e : Builtin.bitAnd x y / 2 = Builtin.bitAnd (x / 2) (y / 2) := by
      split at h <;> omega
    rw [bit, e, bit_and c, bit, bit]
theorem bit_not : ∀ (c : Nat) (x : Int), bit (Builtin.bitNot x) c = !bit x c
  | 0, x => by
    have e : Builtin.bitNot x = -x - 1 := by unfold Builtin.bitNot; omega
    rw [e]
    unfold bit
    by_cases h : x % 2 = 1
    · rw [decide_eq_true h, decide_eq_false (by omega)]; rfl
    · rw [decide_eq_false h, decide_eq_true (by omega)]; rfl
  | c + 1, x => by
    have e : Builtin.bitNot x = -x - 1 := by unfold Builtin.bitNot; omega
    have e2 : Builtin.bitNot (x / 2) = -(x / 2) - 1 := by unfold Builtin.bitNot; omega
    have h := bit_not c (x / 2)
    rw [e2] at h
    rw [bit, bit, ← h, e]
    congr 1
    omega
theorem bit_or (c : Nat) (x y : Int) : bit (Builtin.bitOr x y) c = (bit x c || bit y c) := by
  unfold Builtin.bitOr
  rw [bit_not, bit_and, bit_not, bit_not]
  simp
def InR (k : Nat) (v : Int) : Prop := -(2 ^ k) ≤ v ∧ v < 2 ^ k
theorem inR_half {k : Nat} {v : Int} (h : InR (k + 1) v) : InR k (v / 2) := by
  obtain ⟨h1, h2⟩ := h
  rw [Int.pow_succ] at h1 h2
  exact ⟨by omega, by omega⟩
theorem inR_dbl {k : Nat} {v : Int} (h : InR k (v / 2)) : InR (k + 1) v := by
  obtain ⟨h1, h2⟩ := h
  refine ⟨?_, ?_⟩ <;> rw [Int.pow_succ] <;> omega
theorem inR_ext : ∀ {k : Nat} {x y : Int}, InR k x → InR k y → (∀ c, c ≤ k → bit x c = bit y c) → x = y
  | 0, x, y, ⟨a1, a2⟩, ⟨b1, b2⟩, h => by
    have e := h 0 (Nat.le_refl _)
    unfold bit at e
    simp only [Int.pow_zero] at a1 a2 b1 b2
    have := decide_eq_decide.mp e
    omega
  | k + 1, x, y, hx, hy, h => by
    have e := inR_ext (inR_half hx) (inR_half hy) fun c hc => h (c + 1) (by omega)
    have e0 := h 0 (Nat.zero_le _)
    unfold bit at e0
    have := decide_eq_decide.mp e0
    omega
theorem inR_and : ∀ {k : Nat} {x y : Int}, InR k x → InR k y → InR k (Builtin.bitAnd x y)
  | 0, x, y, ⟨a1, a2⟩, ⟨b1, b2⟩ => by
    simp only [Int.pow_zero] at a1 a2 b1 b2
    have hx : x = -1 ∨ x = 0 := by omega
    have hy : y = -1 ∨ y = 0 := by omega
    rcases hx with rfl | rfl <;> rcases hy with rfl | rfl <;> exact ⟨by decide, by decide⟩
  | k + 1, x, y, hx, hy => by
    have h := PySem.W.kbt_halves x y
    have e : Builtin.bitAnd x y / 2 = Builtin.bitAnd (x / 2) (y / 2) := by
      split at h <;> omega
    refine inR_dbl ?_
    rw [e]
    exact inR_and (inR_half hx) (inR_half hy)
theorem inR_not {k : Nat} {x : Int} (h : InR k x) : InR k (Builtin.bitNot x) := by
  have e : Builtin.bitNot x = -x - 1 := by unfold Builtin.bitNot; omega
  obtain ⟨h1, h2⟩ := h
  rw [e]
  exact ⟨by omega, by omega⟩
theorem inR_or {k : Nat} {x y : Int} (hx : InR k x) (hy : InR k y) : InR k (Builtin.bitOr x y) := by
  unfold Builtin.bitOr
  exact inR_not (inR_and (inR_not hx) (inR_not hy))
theorem inR_pow {k a : Nat} (h : a < k) : InR k (2 ^ a) := by
  have h1 : (0 : Int) < 2 ^ a := Int.pow_pos (by decide)
  have h2 : (0 : Int) < 2 ^ k := Int.pow_pos (by decide)
  exact ⟨by omega, by
    have := Nat.pow_lt_pow_right (a := 2) (by decide) h
    exact_mod_cast this⟩
theorem inR_zero (k : Nat) : InR k 0 := by
  have h2 : (0 : Int) < 2 ^ k := Int.pow_pos (by decide)
  exact ⟨by omega, by omega⟩
theorem inR_m1 (k : Nat) : InR k (-1) := by
  have h2 : (0 : Int) < 2 ^ k := Int.pow_pos (by decide)
  exact ⟨by omega, by omega⟩
theorem bit_pow : ∀ (c a : Nat), bit (2 ^ a) c = decide (c = a)
  | 0, 0 => by decide
  | 0, a + 1 => by
    unfold bit
    rw [Int.pow_succ, decide_eq_false (by omega), decide_eq_false (by omega)]
  | c + 1, 0 => by
    rw [bit, show ((2 : Int) ^ 0) / 2 = 0 by decide, bit_eq]
    simp
  | c + 1, a + 1 => by
    rw [bit, Int.pow_succ, Int.mul_ediv_cancel _ (by decide), bit_pow c a]
    exact decide_eq_decide.mpr ⟨fun h => by omega, fun h => by omega⟩
theorem bit_zero (c : Nat) : bit 0 c = false := by
  rw [bit_eq]; simp
theorem bit_m1 : ∀ c : Nat, bit (-1) c = true
  | 0 => by decide
  | c + 1 => by rw [bit, show ((-1 : Int)) / 2 = -1 by decide, bit_m1 c]
/-- how many of the bits 0 to k -/
def pc (k : Nat) (v : Int) : Nat := ((List.range (k + 1)).filter fun c => bit v c).length
theorem filter_le {α : Type} {p q : α → Bool} : ∀ {l : List α}, (∀ x ∈ l, p x = true → q x = true) → (l.filter p).length ≤ (l.filter q).length
  | [], _ => Nat.le_refl _
  | a :: r, h => by
    have ih := filter_le (l := r) fun x hx => h x (List.mem_cons_of_mem _ hx)
    by_cases hp : p a = true
    · rw [List.filter_cons_of_pos hp, List.filter_cons_of_pos (h a List.mem_cons_self hp)]
      simp only [List.length_cons]; omega
    · rw [List.filter_cons_of_neg hp]
      by_cases hq : q a = true
      · rw [List.filter_cons_of_pos hq]; simp only [List.length_cons]; omega
      · rw [List.filter_cons_of_neg hq]; exact ih
theorem filter_lt {α : Type} {p q : α → Bool} : ∀ {l : List α}, (∀ x ∈ l, p x = true → q x = true) → (∃ x ∈ l, q x = true ∧ p x = false) → (l.filter p).length < (l.filter q).length
  | [], _, h => by obtain ⟨x, hx, _⟩ := h; exact nomatch hx
  | a :: r, h, ⟨x, hx, h1, h2⟩ => by
    have h' : ∀ x ∈ r, p x = true → q x = true := fun x hx => h x (List.mem_cons_of_mem _ hx)
    rcases List.mem_cons.mp hx with rfl | hx
    · have := filter_le h'
      rw [List.filter_cons_of_neg (by rw [h2]; decide), List.filter_cons_of_pos h1]
      simp only [List.length_cons]; omega
    · have ih := filter_lt h' ⟨x, hx, h1, h2⟩
      by_cases hp : p a = true
      · rw [List.filter_cons_of_pos hp, List.filter_cons_of_pos (h a List.mem_cons_self hp)]
        simp only [List.length_cons]; omega
      · rw [List.filter_cons_of_neg hp]
        by_cases hq : q a = true
        · rw [List.filter_cons_of_pos hq]; simp only [List.length_cons]; omega
        · rw [List.filter_cons_of_neg hq]; exact ih
theorem pc_lt {k : Nat} {x y : Int} (hx : InR k x) (hy : InR k y) (hn : Builtin.bitAnd x y ≠ x) : pc k (Builtin.bitAnd x y) < pc k x := by
  unfold pc
  refine filter_lt (fun c _ h => by rw [bit_and, Bool.and_eq_true] at h; exact h.1) ?_
  have : ¬ ∀ c, c ≤ k → bit (Builtin.bitAnd x y) c = bit x c := fun z => hn (inR_ext (inR_and hx hy) hx z)
  obtain ⟨c, hc⟩ := Classical.not_forall.mp this
  obtain ⟨hc, hb⟩ := Classical.not_imp.mp hc
  refine ⟨c, List.mem_range.mpr (by omega), ?_⟩
  rw [bit_and] at hb ⊢
  cases h1 : bit x c <;> cases h2 : bit y c <;> simp_all
end L2.My
end
section
set_option Elab.async false
set_option linter.all false
set_option maxRecDepth 100000
set_option maxHeartbeats 4000000
namespace L2.My
open PySem PySem.Spec PyProof.Rows
def top (i : Nat) : Stmt := PySem.Challenge.pw_strangerspost_k50_whole_rules_judged.main.body.getD i (.Pass ⟨0, 0, 0, 0⟩)
abbrev mR (i : Nat) : Stmt := inClass (top 19) i
abbrev mB (i : Nat) : Stmt := inClass (top 2) i
/-! ### facts on the heap -/
/-- a word of letters -/
def wordS (z : Str) : Prop := 1 ≤ z.length ∧ z.length ≤ 12 ∧ z.cps.toList.all (fun c => decide (97 ≤ c) && decide (c ≤ 122)) = true
/-- a good fact -/
def GF (f : Fc) : Prop := ∃ (z : Str) (is : List Int), f = .inr z :: is.map .inl ∧ wordS z ∧ is.length ≤ 4 ∧ ∀ i ∈ is, 0 ≤ i ∧ i < 1000000000000
/-- all tuples stand -/
def TK (H H' : Hp) : Prop := ∀ p xs, H p = some (.tup xs) → H' p = some (.tup xs)
theorem TK.refl {H : Hp} : TK H H := fun _ _ h => h
theorem TK.trans {H H1 H2 : Hp} (a : TK H H1) (b : TK H1 H2) : TK H H2 := fun p xs h => b p xs (a p xs h)
theorem TK.same {H H' : Hp} (s : Same H H') : TK H H' := fun _ _ h => s _ _ h
theorem TK.upd {H : Hp} {a : Addr} {o : HO} {u : HO} (h : H a = some u) (hu : ∀ xs, u ≠ .tup xs) : TK H (upd H a o) := fun p xs e => by
  rw [upd_ne (fun z => by rw [z, h] at e; exact hu xs (Option.some.inj e))]
  exact e
theorem TK.bl {L : List Addr} {H H' : Hp} (s : BL L H H') (hL : ∀ p ∈ L, ∀ xs, H p ≠ some (.tup xs)) : TK H H' := fun p xs e => s p _ (fun z => hL p z xs e) e
def FactAt (H : Hp) (a : Addr) (f : Fc) : Prop := H a = some (.tup (f.map kV))
def FactsAt (H : Hp) (a : Addr) (fs : List Fc) : Prop := ∃ as : List Addr, H a = some (.tup (as.map .ref)) ∧ Paired (FactAt H) as fs
def ClAt (H : Hp) (a : Addr) (c : Cz) : Prop := ∃ b h, H a = some (.tup [.ref b, .ref h]) ∧ FactsAt H b c.1 ∧ FactAt H h c.2
def ClsAt (H : Hp) (a : Addr) (cs : List Cz) : Prop := ∃ as : List Addr, H a = some (.tup (as.map .ref)) ∧ Paired (ClAt H) as cs
def GrsAt (H : Hp) (a : Addr) (gs : List (List Fc)) : Prop := ∃ as : List Addr, H a = some (.tup (as.map .ref)) ∧ Paired (FactsAt H) as gs
theorem FactAt.tk {H H' : Hp} {a : Addr} {f : Fc} (h : FactAt H a f) (s : TK H H') : FactAt H' a f := s _ _ h
theorem FactsAt.tk {H H' : Hp} {a : Addr} {f : List Fc} (h : FactsAt H a f) (s : TK H H') : FactsAt H' a f := by
  obtain ⟨as, h1, h2⟩ := h
  exact ⟨as, s _ _ h1, Paired.mapP h2 fun _ _ z => z.tk s⟩
theorem ClAt.tk {H H' : Hp} {a : Addr} {f : Cz} (h : ClAt H a f) (s : TK H H') : ClAt H' a f := by
  obtain ⟨b, c, h1, h2, h3⟩ := h
  exact ⟨b, c, s _ _ h1, h2.tk s, h3.tk s⟩
theorem ClsAt.tk {H H' : Hp} {a : Addr} {f : List Cz} (h : ClsAt H a f) (s : TK H H') : ClsAt H' a f := by
  obtain ⟨as, h1, h2⟩ := h
  exact ⟨as, s _ _ h1, Paired.mapP h2 fun _ _ z => z.tk s⟩
theorem GrsAt.tk {H H' : Hp} {a : Addr} {f : List (List Fc)} (h : GrsAt H a f) (s : TK H H') : GrsAt H' a f := by
  obtain ⟨as, h1, h2⟩ := h
  exact ⟨as, s _ _ h1, Paired.mapP h2 fun _ _ z => z.tk s⟩
/-- good clauses, good grounds -/
def GC (c : Cz) : Prop := c.1.length ≤ 4 ∧ (∀ f ∈ c.1, GF f) ∧ GF c.2
/-! ### the text's names -/
structure Tx (mg : Str → Option Value) : Prop where
  isi : mg "isinstance" = none
  int_ : mg "int" = none
  bool_ : mg "bool" = none
  str_ : mg "str" = none
  len_ : mg "len" = none
  all_ : mg "all" = none
  tuple_ : mg "tuple" = none
  list_ : mg "list" = none
  sorted_ : mg "sorted" = none
  range_ : mg "range" = none
  enum_ : mg "enumerate" = none
  abs_ : mg "abs" = none
  zip_ : mg "zip" = none
  set_ : mg "set" = none
  ml : ∃ t, mg "MOST_LETTERS" = some (.int 12 t)
  nb : ∃ t, mg "NUMBER_BOUND" = some (.int 1000000000000 t)
  mn : ∃ t, mg "MOST_NUMBERS" = some (.int 4 t)
  mb : ∃ t, mg "MOST_BODY" = some (.int 4 t)
  mc : ∃ t, mg "MOST_CLAUSES" = some (.int 20000 t)
  mgr : ∃ t, mg "MOST_GROUNDS" = some (.int 60 t)
  mf : ∃ t, mg "MOST_FACTS" = some (.int 5000 t)
/-- a def of the module that may be called -/
structure Cal (P : Program) (w : World) (K : PySem.W.Frag) (mg : Str → Option Value) (base : Heap) (k : Nat) (x : Str) (ps : List Str) (sp : Sp) where
  f : Addr
  fd : FuncData
  G : FnOk P w K mg base CX0 k f fd ps sp
  kp : PySem.W.keepIn K (.ref f) = true
  g : mg x = some (.ref f)
  b : Binds K fd ps []
/-- a method of a class that may be called -/
structure Met (P : Program) (w : World) (K : PySem.W.Frag) (mg : Str → Option Value) (base : Heap) (k : Nat) (C : Addr) (x : Str) (ps : List Str) (sp : Sp) where
  f : Addr
  fd : FuncData
  c : Cls K C
  m : Meth K C x f
  G : FnOk P w K mg base CX0 k f fd ps sp
  b : Binds K fd ps []
/-- a class of which objects may be made -/
structure Mak (P : Program) (w : World) (K : PySem.W.Frag) (mg : Str → Option Value) (base : Heap) (k : Nat) (C : Addr) (x : Str) (ps : List Str) (sp : Sp) where
  f : Addr
  fd : FuncData
  M : Mk K C f
  G : FnOk P w K mg base CX0 k f fd ps sp
  g : mg x = some (.ref C)
  b : Binds K fd ps []
section
variable {X : Cx} {k j : Nat} {x : Str} {ps : List Str} {sp : Sp} {C : Addr} {p pos apos : Pos} {e o : Expr} {es : List Expr} {t : TA} {to : TE}
theorem pe_c (c : Cal X.prog X.w X.K X.mg X.base k x ps sp) (hr : Room j X.A) (hk : k ≤ j) (hg : Gl X x) (ha : PA X (e :: es) t) (hdb : (x == ("__debug__" : Str)) = false := by decide)
    (he : starEach (e :: es) X.env = (false, eval e X.env) :: starEach es X.env := by rfl) (hpl : (backTo pos (starEach es X.env)).any (·.1) = false := by rfl) : PE X (.Call (.Name x p) (e :: es) [] pos) (tCall sp [] E0 t) :=
  pe_call c.G (hr.mono hk) hg c.g c.kp c.b .nil pass0 ha hdb he hpl
end
end L2.My
end
section
set_option Elab.async false
set_option linter.all false
set_option maxRecDepth 100000
set_option maxHeartbeats 4000000
namespace L2.My
open PySem PySem.Spec PyProof.Rows
theorem sIx1 (n d : Nat) : HT.sIx n d (some 1) = min 1 n := HT.sIx_nat n d 1
theorem Paired.at {α β : Type} {R : α → β → Prop} {as : List α} {bs : List β} (h : Paired R as bs) {i : Nat} {b : β} (hb : bs[i]? = some b) : ∃ a, as[i]? = some a ∧ R a b := by
  induction h generalizing i with
  | nil => simp at hb
  | @cons x y xs ys r t ih =>
    cases i with
    | zero => simp only [List.getElem?_cons_zero, Option.some.injEq] at hb; subst hb; exact ⟨x, rfl, r⟩
    | succ i => rw [List.getElem?_cons_succ] at hb; obtain ⟨a, ha, hr⟩ := ih hb; exact ⟨a, by rw [List.getElem?_cons_succ]; exact ha, hr⟩
theorem Paired.at' {α β : Type} {R : α → β → Prop} {as : List α} {bs : List β} (h : Paired R as bs) {i : Nat} {a : α} (ha : as[i]? = some a) : ∃ b, bs[i]? = some b ∧ R a b := by
  induction h generalizing i with
  | nil => simp at ha
  | @cons x y xs ys r t ih =>
    cases i with
    | zero => simp only [List.getElem?_cons_zero, Option.some.injEq] at ha; subst ha; exact ⟨y, rfl, r⟩
    | succ i => rw [List.getElem?_cons_succ] at ha; obtain ⟨b, hb, hr⟩ := ih ha; exact ⟨b, by rw [List.getElem?_cons_succ]; exact hb, hr⟩
theorem Paired.len {α β : Type} {R : α → β → Prop} {as : List α} {bs : List β} (h : Paired R as bs) : as.length = bs.length := by
  induction h with
  | nil => rfl
  | cons _ _ ih => rw [List.length_cons, List.length_cons, ih]
theorem ref_at {as : List Addr} {i : Nat} {v : V} (h : (as.map V.ref)[i]? = some v) : ∃ a, as[i]? = some a ∧ v = .ref a := by
  rw [List.getElem?_map] at h
  cases e : as[i]? with
  | none => rw [e] at h; cases h
  | some a => rw [e] at h; exact ⟨a, rfl, (Option.some.inj h).symm⟩
theorem all_tt (n : Nat) : ((List.range n).map fun _ => true).all id = true := by simp
structure RuC (K : PySem.W.Frag) (C : Addr) : Prop where
  cls : Cls K C
  na : ∀ f ∈ (["clauses", "grounds"] : List Str), NoAttr K C f
/-- the data of a rule -/
structure GR (cs : List Cz) (gs : List (List Fc)) : Prop where
  cl : ∀ c ∈ cs, GC c
  gr : ∀ g ∈ gs, ∀ f ∈ g, GF f
  nc : cs.length ≤ 1000
  ng : gs.length ≤ 60
  nf : ∀ g ∈ gs, g.length ≤ 1000
def RuleAt (H : Hp) (C r dx ca ga : Addr) (cs : List Cz) (gs : List (List Fc)) : Prop := H r = some (.ins C dx [("clauses", .ref ca), ("grounds", .ref ga)]) ∧ ClsAt H ca cs ∧ GrsAt H ga gs
theorem RuleAt.keep {H H' : Hp} {C r dx ca ga : Addr} {cs : List Cz} {gs : List (List Fc)} (h : RuleAt H C r dx ca ga cs gs) (t : TK H H') (hr : H' r = H r) : RuleAt H' C r dx ca ga cs gs := ⟨hr.trans h.1, h.2.1.tk t, h.2.2.tk t⟩
theorem BL.put {L : List Addr} {H G : Hp} {p : Addr} {o : HO} (b : BL L H G) (h : H p = none) : BL L H (L2.upd G p o) := fun q u hq e => by
  rw [upd_ne (fun z => by rw [z, h] at e; cases e)]
  exact b q u hq e
theorem BL.nw {L : List Addr} {H G : Hp} {p : Addr} (b : BL L H G) (h : G p = none) (hp : p ∉ L) : H p = none := by
  cases e : H p with
  | none => rfl
  | some o => rw [b _ _ hp e] at h; cases h
theorem Paired.snoc {α β : Type} {R : α → β → Prop} {as : List α} {bs : List β} {a : α} {b : β} (h : Paired R as bs) (r : R a b) : Paired R (as ++ [a]) (bs ++ [b]) := by
  induction h with
  | nil => exact .cons r .nil
  | cons r' _ ih => exact .cons r' ih
theorem take_snoc {α : Type} {l : List α} {i : Nat} {a : α} (h : l[i]? = some a) : l.take (i + 1) = l.take i ++ [a] := by
  rw [List.take_add_one, h]; rfl
theorem same_put {H G : Hp} {p : Addr} {o : HO} (b : Same H G) (h : H p = none) : Same H (upd G p o) := fun q u e => by
  rw [upd_ne (fun z => by rw [z, h] at e; cases e)]
  exact b q u e
theorem paired_app {α β : Type} {R : α → β → Prop} {as cs : List α} {bs ds : List β} (h : Paired R as bs) (k : Paired R cs ds) : Paired R (as ++ cs) (bs ++ ds) := by
  induction h with
  | nil => exact k
  | cons r _ ih => exact .cons r ih
end L2.My
end
section
set_option Elab.async false
set_option linter.all false
set_option maxRecDepth 100000
set_option maxHeartbeats 4000000
namespace L2.My
open PySem PySem.Spec PyProof.Rows
abbrev sBelow : Stmt := top 4
abbrev sWord : Stmt := top 7
abbrev sFact : Stmt := top 15
abbrev sTupOf : Stmt := top 16
abbrev sFacts : Stmt := top 17
abbrev sClause : Stmt := top 18
/-! ### things of any kind: seen as deep as one likes, none the hand at b -/
def Sh0 (b : Addr) (H : Hp) (v : V) : Prop := (∃ t, ThT H v t) ∧ v ≠ .ref b ∧ ∀ z, v = .str z → z.length ≤ 5000
def Sh (b : Addr) (H : Hp) : Nat → V → Prop
  | 0, v => Sh0 b H v
  | n + 1, v => Sh0 b H v ∧ ∀ a xs, v = .ref a → H a = some (.tup xs) → xs.length ≤ 5000 ∧ ∀ x ∈ xs, Sh b H n x
def Thg (b : Addr) (H : Hp) (v : V) : Prop := ∀ n, Sh b H n v
theorem ThT.stay {b : Addr} {H H' : Hp} {v : V} {t : String} (h : ThT H v t) (n : v ≠ .ref b) (s : BL [b] H H') : ThT H' v t := by
  cases h with
  | non => exact .non
  | bl c => exact .bl c
  | int i => exact .int i
  | str x => exact .str x
  | lst h => exact .lst (s _ _ (by simpa using fun e => n (by rw [e])) h)
  | tup h => exact .tup (s _ _ (by simpa using fun e => n (by rw [e])) h)
  | dct h => exact .dct (s _ _ (by simpa using fun e => n (by rw [e])) h)
theorem Sh0.bl {b : Addr} {H H' : Hp} {v : V} (h : Sh0 b H v) (s : BL [b] H H') : Sh0 b H' v := by
  obtain ⟨⟨t, h1⟩, h2, h3⟩ := h
  exact ⟨⟨t, h1.stay h2 s⟩, h2, h3⟩
theorem ThT.back {b : Addr} {H H' : Hp} {a : Addr} {t : String} (h : ThT H (.ref a) t) (n : V.ref a ≠ .ref b) (s : BL [b] H H') {xs : List V} (e : H' a = some (.tup xs)) : H a = some (.tup xs) := by
  have nb : a ∉ [b] := by simpa using fun e => n (by rw [e])
  cases h with
  | lst h => rw [s _ _ nb h] at e; cases e
  | tup h => rw [s _ _ nb h] at e; cases e; exact h
  | dct h => rw [s _ _ nb h] at e; cases e
theorem Sh.bl {b : Addr} {H H' : Hp} (s : BL [b] H H') : ∀ {n : Nat} {v : V}, Sh b H n v → Sh b H' n v
  | 0, v, h => Sh0.bl h s
  | n + 1, v, h => by
    refine ⟨h.1.bl s, fun a xs e ea => ?_⟩
    subst e
    obtain ⟨⟨t, h1⟩, h2, _⟩ := h.1
    obtain ⟨q1, q2⟩ := h.2 a xs rfl (h1.back h2 s ea)
    exact ⟨q1, fun x hx => Sh.bl s (q2 x hx)⟩
theorem Thg.bl {b : Addr} {H H' : Hp} {v : V} (h : Thg b H v) (s : BL [b] H H') : Thg b H' v := fun n => (h n).bl s
theorem Thg.same {b : Addr} {H H' : Hp} {v : V} (h : Thg b H v) (s : Same H H') : Thg b H' v := h.bl (.same s)
theorem Thg.th {b : Addr} {H : Hp} {v : V} (h : Thg b H v) : ∃ t, ThT H v t := (h 0).1
theorem Thg.len {b : Addr} {H : Hp} {z : Str} (h : Thg b H (.str z)) : z.length ≤ 5000 := (h 0).2.2 z rfl
theorem Thg.sub {b a : Addr} {H : Hp} {xs : List V} (h : Thg b H (.ref a)) (e : H a = some (.tup xs)) : xs.length ≤ 5000 ∧ ∀ x ∈ xs, Thg b H x := ⟨((h 1).2 a xs rfl e).1, fun x hx n => ((h (n + 1)).2 a xs rfl e).2 x hx⟩
theorem Thg.tup {b a : Addr} {H : Hp} {xs : List V} (e : H a = some (.tup xs)) (n : a ≠ b) (hl : xs.length ≤ 5000) (h : ∀ x ∈ xs, Thg b H x) : Thg b H (.ref a) := by
  have h0 : Sh0 b H (.ref a) := ⟨⟨_, .tup e⟩, fun z => n (V.ref.inj z), fun z q => nomatch q⟩
  intro k
  cases k with
  | zero => exact h0
  | succ k =>
    refine ⟨h0, fun a' ys q e' => ?_⟩
    cases q
    rw [e] at e'
    cases e'
    exact ⟨hl, fun x hx => h x hx k⟩
theorem Thg.lst {b a : Addr} {H : Hp} {xs : List V} (e : H a = some (.lst xs)) (n : a ≠ b) : Thg b H (.ref a) := by
  have h0 : Sh0 b H (.ref a) := ⟨⟨_, .lst e⟩, fun z => n (V.ref.inj z), fun z q => nomatch q⟩
  intro k
  cases k with
  | zero => exact h0
  | succ k =>
    refine ⟨h0, fun a' ys q e' => ?_⟩
    cases q
    rw [e] at e'
    cases e'
theorem Thg.dct {b a : Addr} {H : Hp} {kvs : List (Key × V)} (e : H a = some (.dK kvs)) (n : a ≠ b) : Thg b H (.ref a) := by
  have h0 : Sh0 b H (.ref a) := ⟨⟨_, .dct e⟩, fun z => n (V.ref.inj z), fun z q => nomatch q⟩
  intro k
  cases k with
  | zero => exact h0
  | succ k =>
    refine ⟨h0, fun a' ys q e' => ?_⟩
    cases q
    rw [e] at e'
    cases e'
theorem thg_flat {b : Addr} {H : Hp} {v : V} (h0 : Sh0 b H v) (h : ∀ a, v ≠ .ref a) : Thg b H v := by
  intro k
  cases k with
  | zero => exact h0
  | succ k => exact ⟨h0, fun a xs e _ => absurd e (h a)⟩
theorem Thg.non {b : Addr} {H : Hp} : Thg b H .non := thg_flat ⟨⟨_, .non⟩, (fun z => nomatch z), fun z q => nomatch q⟩ fun a z => nomatch z
theorem Thg.int {b : Addr} {H : Hp} (i : Int) : Thg b H (.int i) := thg_flat ⟨⟨_, .int i⟩, (fun z => nomatch z), fun z q => nomatch q⟩ fun a z => nomatch z
theorem Thg.boo {b : Addr} {H : Hp} (i : Bool) : Thg b H (.bl i) := thg_flat ⟨⟨_, .bl i⟩, (fun z => nomatch z), fun z q => nomatch q⟩ fun a z => nomatch z
theorem Thg.str {b : Addr} {H : Hp} (z : Str) (h : z.length ≤ 5000) : Thg b H (.str z) := thg_flat ⟨⟨_, .str z⟩, (fun z => nomatch z), fun y q => by cases q; exact h⟩ fun a z => nomatch z
/-! ### the verdicts, read off the heap -/
def tupO : Option HO → Option (List V)
  | some (.tup xs) => some xs
  | _ => none
def tupOf (H : Hp) : V → Option (List V)
  | .ref a => tupO (H a)
  | _ => none
def signB (c : Nat) : Bool := decide (97 ≤ c) && decide (c ≤ 122)
def wordB (z : Str) : Bool := decide (1 ≤ z.length) && (decide (z.length ≤ 12) && z.cps.toList.all signB)
def wordV : V → Bool
  | .str z => wordB z
  | _ => false
def big : Int := 1000000000000
def factB (H : Hp) (v : V) : Bool := match tupOf H v with
  | some (x :: xs) => decide (xs.length ≤ 4) && (wordV x && xs.all (belowV 1000000000000))
  | _ => false
def tupB (H : Hp) (n : Nat) (v : V) : Bool := match tupOf H v with
  | some xs => decide (xs.length ≤ n)
  | none => false
def factsB (H : Hp) (n : Nat) (v : V) : Bool := match tupOf H v with
  | some xs => decide (xs.length ≤ n) && xs.all (factB H)
  | none => false
def clauseB (H : Hp) (v : V) : Bool := match tupOf H v with
  | some [b, h] => factsB H 4 b && factB H h
  | _ => false
theorem tupOf_at {H : Hp} {a : Addr} {xs : List V} (h : H a = some (.tup xs)) : tupOf H (.ref a) = some xs := by
  show tupO (H a) = _
  rw [h]
  rfl
theorem tupOf_lst {H : Hp} {a : Addr} {xs : List V} (h : H a = some (.lst xs)) : tupOf H (.ref a) = none := by
  show tupO (H a) = _
  rw [h]
  rfl
theorem tupOf_dct {H : Hp} {a : Addr} {xs : List (Key × V)} (h : H a = some (.dK xs)) : tupOf H (.ref a) = none := by
  show tupO (H a) = _
  rw [h]
  rfl
theorem tup_cases {H : Hp} {v : V} {t : String} (h : ThT H v t) : (∃ a xs, v = .ref a ∧ H a = some (.tup xs) ∧ tupOf H v = some xs ∧ t = "tuple") ∨ (tupOf H v = none ∧ instT t "tuple" = false) := by
  cases h with
  | non => exact .inr ⟨rfl, by decide⟩
  | bl c => exact .inr ⟨rfl, by decide⟩
  | int i => exact .inr ⟨rfl, by decide⟩
  | str x => exact .inr ⟨rfl, by decide⟩
  | lst h => exact .inr ⟨tupOf_lst h, by decide⟩
  | tup h => exact .inl ⟨_, _, rfl, h, tupOf_at h, rfl⟩
  | dct h => exact .inr ⟨tupOf_dct h, by decide⟩
theorem str_cases {H : Hp} {v : V} {t : String} (h : ThT H v t) : (∃ z, v = .str z ∧ t = "str") ∨ (wordV v = false ∧ instT t "str" = false) := by
  cases h with
  | str x => exact .inl ⟨x, rfl, rfl⟩
  | _ => exact .inr ⟨rfl, by decide⟩
theorem int_cases {H : Hp} {v : V} {t : String} {n : Int} (h : ThT H v t) : (∃ i, v = .int i ∧ t = "int") ∨ (∃ c, v = .bl c ∧ t = "bool") ∨ (belowV n v = false ∧ instT t "int" = false) := by
  cases h with
  | int i => exact .inl ⟨i, rfl, rfl⟩
  | bl c => exact .inr (.inl ⟨c, rfl, rfl⟩)
  | _ => exact .inr (.inr ⟨rfl, by decide⟩)
theorem tupOf_bl {b : Addr} {H H' : Hp} {v : V} (h : Thg b H v) (s : BL [b] H H') : tupOf H' v = tupOf H v := by
  obtain ⟨⟨t, h1⟩, h2, _⟩ := h 0
  cases h1 with
  | non => rfl
  | bl c => rfl
  | int i => rfl
  | str x => rfl
  | lst h' =>
    have e := s _ _ (by simpa using fun e => h2 (by rw [e])) h'
    rw [tupOf_lst h', tupOf_lst e]
  | tup h' =>
    have e := s _ _ (by simpa using fun e => h2 (by rw [e])) h'
    rw [tupOf_at h', tupOf_at e]
  | dct h' =>
    have e := s _ _ (by simpa using fun e => h2 (by rw [e])) h'
    rw [tupOf_dct h', tupOf_dct e]
theorem tupOf_sub {b : Addr} {H : Hp} {v : V} {xs : List V} (h : Thg b H v) (e : tupOf H v = some xs) : ∃ a, v = .ref a ∧ H a = some (.tup xs) ∧ xs.length ≤ 5000 ∧ ∀ x ∈ xs, Thg b H x := by
  obtain ⟨t, ht⟩ := h.th
  rcases tup_cases ht with ⟨a, ys, rfl, h1, h2, _⟩ | ⟨h1, _⟩
  · rw [h2] at e
    cases e
    obtain ⟨q1, q2⟩ := h.sub h1
    exact ⟨a, rfl, h1, q1, q2⟩
  · rw [h1] at e; cases e
theorem factB_bl {b : Addr} {H H' : Hp} {v : V} (h : Thg b H v) (s : BL [b] H H') : factB H' v = factB H v := by
  unfold factB
  rw [tupOf_bl h s]
theorem all_congr {α : Type} {p q : α → Bool} : ∀ {xs : List α}, (∀ x ∈ xs, p x = q x) → xs.all p = xs.all q
  | [], _ => rfl
  | x :: r, h => by
    rw [List.all_cons, List.all_cons, h x List.mem_cons_self, all_congr fun y hy => h y (List.mem_cons_of_mem _ hy)]
theorem factsB_bl {b : Addr} {H H' : Hp} {v : V} {n : Nat} (h : Thg b H v) (s : BL [b] H H') : factsB H' n v = factsB H n v := by
  unfold factsB
  rw [tupOf_bl h s]
  cases e : tupOf H v with
  | none => rfl
  | some xs =>
    obtain ⟨a, _, _, _, q⟩ := tupOf_sub h e
    show (_ && xs.all (factB H')) = (_ && xs.all (factB H))
    rw [all_congr fun x hx => factB_bl (q x hx) s]
theorem clauseB_bl {b : Addr} {H H' : Hp} {v : V} (h : Thg b H v) (s : BL [b] H H') : clauseB H' v = clauseB H v := by
  unfold clauseB
  rw [tupOf_bl h s]
  cases e : tupOf H v with
  | none => rfl
  | some xs =>
    obtain ⟨a, _, _, _, q⟩ := tupOf_sub h e
    match xs, q with
    | [], _ => rfl
    | [x], _ => rfl
    | [x, y], q =>
      show (factsB H' 4 x && factB H' y) = (factsB H 4 x && factB H y)
      rw [factsB_bl (q x (by simp)) s, factB_bl (q y (by simp)) s]
    | x :: y :: z :: r, _ => rfl
theorem range_all {α : Type} (p : α → Bool) (d : α) (xs : List α) : ((List.range xs.length).map fun i => p (xs.getD i d)).all id = xs.all p := by
  rw [List.all_map]
  induction xs with
  | nil => rfl
  | cons x r ih =>
    rw [List.length_cons, List.range_succ_eq_map, List.all_cons, List.all_cons, List.all_map]
    rw [← ih]
    rfl
/-! ### the judges -/
def spBelow : Sp := fun vs H Q _ => ∃ (b : Addr) (n : Int) (v : V), vs = [.int n, v] ∧ Thg b H v ∧ Q (.bl (belowV n v)) H
def spWord : Sp := fun vs H Q _ => ∃ (b : Addr) (v : V), vs = [v] ∧ Thg b H v ∧ ∀ H', Same H H' → Q (.bl (wordV v)) H'
def spFact : Sp := fun vs H Q _ => ∃ (b : Addr) (v : V), vs = [v] ∧ Thg b H v ∧ ∀ H', Same H H' → Q (.bl (factB H v)) H'
def spTupOf : Sp := fun vs H Q _ => ∃ (b : Addr) (n : Nat) (v : V), vs = [.int (n : Int), v] ∧ Thg b H v ∧ Q (.bl (tupB H n v)) H
def spFacts : Sp := fun vs H Q _ => ∃ (b : Addr) (n : Nat) (v : V), vs = [.int (n : Int), v] ∧ Thg b H v ∧ ∀ H', Same H H' → Q (.bl (factsB H n v)) H'
def spClause : Sp := fun vs H Q _ => ∃ (b : Addr) (v : V), vs = [v] ∧ Thg b H v ∧ ∀ H', Same H H' → Q (.bl (clauseB H v)) H'
section
variable {P : Program} {w : World} {K : PySem.W.Frag} {mg : Str → Option Value} {base : Heap}
theorem scBelow : FnScope ["bound", "thing"] ["bound", "thing"] (defScope sBelow) := ⟨rfl, rfl, rfl, by decide +kernel, rfl, by decide +kernel, by decide +kernel⟩
theorem ok_below {f : Addr} {fd : FuncData} {k : Nat} (F : Fun K "is_below" "is_below" sBelow f fd) (T : Tx mg) : FnOk P w K mg base CX0 (k + 1) f fd ["bound", "thing"] spBelow := by
  refine F.ok scBelow (fun vs H Q E h => ?_) (fun cdv A outer s H vs Q E hr h => ?_)
  · obtain ⟨b, n, v, rfl, _⟩ := h
    rfl
  · obtain ⟨b, n, v, rfl, hv, q⟩ := h
    obtain ⟨t, ht⟩ := hv.th
    refine ⟨_, (pss_cons (ps_if (pt_or (pt_not (pt_val (pe_callB call_isTh (by rfl) T.isi (by decide +kernel) (pa_cons (pv 1) (pa_cons (pe_bltn (v := .ty "int") (u := .type "int") (by rfl) T.int_ (by decide +kernel) rfl) pa_nil))))) (pw_or1 (pt_val (pe_callB call_isTh (by rfl) T.isi (by decide +kernel) (pa_cons (pv 1) (pa_cons (pe_bltn (v := .ty "bool") (u := .type "bool") (by rfl) T.bool_ (by decide +kernel) rfl) pa_nil)))))) (pss_one (ps_ret pe_bl)) pss_nil) (pss_one (ps_ret (pe_chain op_le op_lt pe_int (pv 1) (pv 0))))), ?_⟩
    refine ⟨_, rfl, _, "int", t, rfl, ht, by decide, _, rfl, ?_⟩
    rcases int_cases (n := n) ht with ⟨i, rfl, rfl⟩ | ⟨c, rfl, rfl⟩ | ⟨e1, e2⟩
    · refine iteF ⟨_, rfl, _, "bool", _, rfl, .int i, by decide, _, rfl, iteF ?_⟩
      refine ⟨_, rfl, _, _, rfl, rfl, _, rfl, ?_⟩
      by_cases h0 : 0 ≤ i
      · rw [decide_eq_true h0]
        refine iteT ⟨_, rfl, _, _, rfl, rfl, ?_⟩
        have e : belowV n (.int i) = decide (i < n) := by
          show decide (0 ≤ i ∧ i < n) = _
          simp [h0]
        rw [e] at q
        exact q
      · rw [decide_eq_false h0]
        refine iteF ?_
        have e : belowV n (.int i) = false := decide_eq_false fun z => h0 z.1
        rw [e] at q
        exact q
    · exact iteF ⟨_, rfl, _, "bool", _, rfl, .bl c, by decide, _, rfl, iteT q⟩
    · rw [e2]
      rw [e1] at q
      exact iteT q
theorem scWord : FnScope ["thing", "sign"] ["thing"] (defScope sWord) := ⟨rfl, rfl, rfl, by decide +kernel, rfl, by decide +kernel, by decide +kernel⟩
theorem ok_word {f : Addr} {fd : FuncData} {k : Nat} (F : Fun K "is_word" "is_word" sWord f fd) (T : Tx mg) : FnOk P w K mg base CX0 (k + 1) f fd ["thing"] spWord := by
  obtain ⟨tm, hm⟩ := T.ml
  refine F.ok scWord (fun vs H Q E h => ?_) (fun cdv A outer s H vs Q E hr h => ?_)
  · obtain ⟨b, v, rfl, _⟩ := h
    rfl
  · obtain ⟨b, v, rfl, hv, q⟩ := h
    obtain ⟨t, ht⟩ := hv.th
    refine ⟨_, (pss_cons (ps_if (pt_or (pt_not (pt_val (pe_callB call_isTh (by rfl) T.isi (by decide +kernel) (pa_cons (pv 0) (pa_cons (pe_bltn (v := .ty "str") (u := .type "str") (by rfl) T.str_ (by decide +kernel) rfl) pa_nil))))) (pw_or1 (pt_not (pt_chain op_le op_le pe_int (pe_callB call_len_str (by rfl) T.len_ PySem.boot_len (pa_cons (pv 0) pa_nil)) (pe_glob (v := .int 12) (by rfl) hm ⟨_, rfl⟩))))) (pss_one (ps_ret pe_bl)) pss_nil) (pss_one (ps_ret (pe_callB (cr_all rfl) (by rfl) T.all_ (by decide +kernel) (pa_cons (pe_lc (own := [("sign", 1)]) (g := gName 1) rfl scWord.nd (pi_str (pv 0)) (blkOk_by (N := ["thing", "sign"]) (sc := defScope sWord) (by decide +kernel)) (fun _ _ _ _ _ => pg_name (i := 1) scWord.nd rfl (Or.inl rfl)) (fun _ _ _ _ _ => pts_nil) (fun _ _ _ _ _ => (pe_chain op_le_str op_le_str pe_str (pv 1) pe_str))) pa_nil))))), ?_⟩
    refine ⟨_, rfl, _, "str", t, rfl, ht, by decide, _, rfl, ?_⟩
    rcases str_cases ht with ⟨z, rfl, rfl⟩ | ⟨e1, e2⟩
    · have ls : z.length ≤ sizeLine := Nat.le_trans hv.len (by decide)
      refine iteF ⟨_, rfl, z, rfl, ls, _, _, rfl, rfl, _, rfl, ?_⟩
      by_cases h1 : 1 ≤ z.length
      · rw [decide_eq_true (by omega)]
        refine iteT ⟨_, _, rfl, rfl, _, rfl, ?_⟩
        by_cases h2 : z.length ≤ 12
        · rw [decide_eq_true (by omega)]
          refine iteF ?_
          refine ⟨_, rfl, _, rfl, fun D hD => ?_⟩
          refine lcP walk_str (fun i => V.bl (signB (z.cps.toList.getD i 0))) (Nat.lt_of_le_of_lt (show z.cps.size ≤ 12 from h2) (by decide)) hD (fun _ _ => trivial) ?_ ?_
          · rintro i y H1 H2 Q' hi sm ⟨rfl, c, hc, rfl⟩ hq
            have hcm : z.cps.toList.getD i 0 = c := by
              rw [← Array.getElem?_toList] at hc
              rw [List.getD_eq_getElem?_getD, hc]
              rfl
            rw [hcm] at hq
            have e1 : (⟨#[c]⟩ : Str).cps.toList = [c] := rfl
            have e2 : (("a" : Str).cps.toList) = [97] := by decide +kernel
            have e3 : (("z" : Str).cps.toList) = [122] := by decide +kernel
            refine ⟨rfl, _, rfl, _, _, rfl, rfl, _, rfl, ?_⟩
            rw [e1, e2, lt1]
            by_cases c1 : 97 ≤ c
            · rw [decide_eq_false (show ¬ c < 97 by omega)]
              refine iteT ⟨_, _, rfl, rfl, ?_⟩
              rw [e1, e3, lt1]
              have e : signB c = !decide (122 < c) := by
                unfold signB
                rw [decide_eq_true c1, Bool.true_and]
                by_cases c2 : c ≤ 122
                · rw [decide_eq_true c2, decide_eq_false (by omega)]; rfl
                · rw [decide_eq_false c2, decide_eq_true (by omega)]; rfl
              rw [e] at hq
              exact hq _ (Same.refl _)
            · rw [decide_eq_true (show c < 97 by omega)]
              have e : signB c = false := by
                unfold signB
                rw [decide_eq_false c1]; rfl
              rw [e] at hq
              exact iteF (hq _ (Same.refl _))
          · intro H' sm hd
            refine ⟨D, (List.range z.cps.size).map fun i => signB (z.cps.toList.getD i 0), rfl, .inl (.inl (by rw [hd, List.map_map]; rfl)), ?_⟩
            have e := range_all signB 0 z.cps.toList
            rw [Array.length_toList] at e
            rw [e]
            have e4 : wordV (.str z) = z.cps.toList.all signB := by
              show wordB z = _
              unfold wordB
              rw [decide_eq_true h1, decide_eq_true h2]
              rfl
            rw [e4] at q
            exact q _ sm
        · rw [decide_eq_false (by omega)]
          have e4 : wordV (.str z) = false := by
            show wordB z = _
            unfold wordB
            rw [decide_eq_false h2]
            simp
          rw [e4] at q
          exact iteT (q _ (Same.refl _))
      · rw [decide_eq_false (by omega)]
        have e4 : wordV (.str z) = false := by
          show wordB z = _
          unfold wordB
          rw [decide_eq_false h1]
          rfl
        rw [e4] at q
        exact iteF ⟨_, rfl, iteT (q _ (Same.refl _))⟩
    · rw [e2]
      rw [e1] at q
      exact iteT (q _ (Same.refl _))
end
end L2.My
end
section
set_option Elab.async false
set_option linter.all false
set_option maxRecDepth 100000
set_option maxHeartbeats 4000000
namespace L2.My
open PySem PySem.Spec PyProof.Rows
theorem tupB_at {H : Hp} {v : V} {xs : List V} {n : Nat} (h : tupOf H v = some xs) : tupB H n v = decide (xs.length ≤ n) := by unfold tupB; rw [h]
theorem tupB_no {H : Hp} {v : V} {n : Nat} (h : tupOf H v = none) : tupB H n v = false := by unfold tupB; rw [h]
theorem factsB_at {H : Hp} {v : V} {xs : List V} {n : Nat} (h : tupOf H v = some xs) : factsB H n v = (decide (xs.length ≤ n) && xs.all (factB H)) := by unfold factsB; rw [h]
theorem factsB_no {H : Hp} {v : V} {n : Nat} (h : tupOf H v = none) : factsB H n v = false := by unfold factsB; rw [h]
theorem factB_no {H : Hp} {v : V} (h : tupOf H v = none) : factB H v = false := by unfold factB; rw [h]
theorem factB_nil {H : Hp} {v : V} (h : tupOf H v = some []) : factB H v = false := by unfold factB; rw [h]
theorem factB_at {H : Hp} {v x : V} {xs : List V} (h : tupOf H v = some (x :: xs)) : factB H v = (decide (xs.length ≤ 4) && (wordV x && xs.all (belowV 1000000000000))) := by unfold factB; rw [h]
theorem clauseB_no {H : Hp} {v : V} (h : tupOf H v = none) : clauseB H v = false := by unfold clauseB; rw [h]
theorem clauseB_at {H : Hp} {v x y : V} (h : tupOf H v = some [x, y]) : clauseB H v = (factsB H 4 x && factB H y) := by unfold clauseB; rw [h]
theorem clauseB_len {H : Hp} {v : V} {xs : List V} (h : tupOf H v = some xs) (n : xs.length ≠ 2) : clauseB H v = false := by
  unfold clauseB
  rw [h]
  match xs, n with
  | [], _ => rfl
  | [_], _ => rfl
  | [_, _], n => exact absurd rfl n
  | _ :: _ :: _ :: _, _ => rfl
theorem cutTail {x : V} {xs : List V} : cutV (x :: xs) (some 1) none = xs := by
  unfold cutV
  rw [HT.sIx_none, sIx1, List.length_cons]
  rw [show min 1 (xs.length + 1) = 1 by omega]
  simp only [List.drop_succ_cons, List.drop_zero, Nat.add_sub_cancel]
  exact List.take_of_length_le (Nat.le_refl _)
section
variable {P : Program} {w : World} {K : PySem.W.Frag} {mg : Str → Option Value} {base : Heap}
theorem scFact : FnScope ["thing", "number"] ["thing"] (defScope sFact) := ⟨rfl, rfl, rfl, by decide +kernel, rfl, by decide +kernel, by decide +kernel⟩
theorem ok_fact {f : Addr} {fd : FuncData} {k : Nat} (F : Fun K "is_fact" "is_fact" sFact f fd) (T : Tx mg) (cB : Cal P w K mg base (k + 1) "is_below" ["bound", "thing"] spBelow) (cW : Cal P w K mg base (k + 1) "is_word" ["thing"] spWord) : FnOk P w K mg base CX0 (k + 2) f fd ["thing"] spFact := by
  obtain ⟨tm, hm⟩ := T.mn
  obtain ⟨tb, hb⟩ := T.nb
  refine F.ok scFact (fun vs H Q E h => ?_) (fun cdv A outer s H vs Q E hr h => ?_)
  · obtain ⟨b, v, rfl, _⟩ := h
    rfl
  · obtain ⟨b, v, rfl, hv, q⟩ := h
    obtain ⟨t, ht⟩ := hv.th
    refine ⟨_, (pss_cons (ps_if (pt_or (pt_not (pt_val (pe_callB call_isTh (by rfl) T.isi (by decide +kernel) (pa_cons (pv 0) (pa_cons (pe_bltn (v := .ty "tuple") (u := .type "tuple") (by rfl) T.tuple_ (by decide +kernel) rfl) pa_nil))))) (pw_or1 (pt_not (pt_chain op_le op_le pe_int (pe_callB call_len_seq (by rfl) T.len_ PySem.boot_len (pa_cons (pv 0) pa_nil)) (pe_op op_add pe_int (pe_glob (v := .int 4) (by rfl) hm ⟨_, rfl⟩)))))) (pss_one (ps_ret pe_bl)) pss_nil) (pss_one (ps_ret (pe_and (pe_c cW hr (by omega) (by rfl) (pa_cons (pe_ix ix_tup (pv 0) pe_int (fun _ _ => rfl)) pa_nil)) (pe_one (pe_callB (cr_all rfl) (by rfl) T.all_ (by decide +kernel) (pa_cons (pe_lc (own := [("number", 1)]) (g := gName 1) (te := tCall spBelow [] E0 (tCons (tC (.int 1000000000000)) (tCons (tVar 1) tNil))) rfl scFact.nd (pi_tup (pe_slice sl_tup (pv 0) (po_some pe_int) po_none)) (blkOk_by (N := ["thing", "number"]) (sc := defScope sFact) (by decide +kernel)) (fun _ _ _ _ _ => pg_name (i := 1) scFact.nd rfl (Or.inl rfl)) (fun _ _ _ _ _ => pts_nil) (fun _ _ _ _ _ => (pe_c cB hr (by omega) (by rfl) (pa_cons (pe_glob (v := .int 1000000000000) (by rfl) hb ⟨_, rfl⟩) (pa_cons (pv 1) pa_nil))))) pa_nil))))))), ?_⟩
    refine ⟨_, rfl, _, "tuple", t, rfl, ht, by decide, _, rfl, ?_⟩
    rcases tup_cases ht with ⟨a, ys, rfl, ha, et, rfl⟩ | ⟨e1, e2⟩
    · obtain ⟨hl, hs⟩ := hv.sub ha
      refine iteF ⟨_, rfl, _, _, rfl, .inr (.of ha), _, _, rfl, rfl, _, rfl, ?_⟩
      cases ys with
      | nil =>
        rw [factB_nil et] at q
        rw [decide_eq_false (by simp)]
        exact iteF ⟨_, rfl, iteT (q _ (Same.refl _))⟩
      | cons x xs =>
        rw [decide_eq_true (by simp only [List.length_cons]; omega)]
        refine iteT ⟨_, _, rfl, rfl, _, _, rfl, rfl, _, rfl, ?_⟩
        rw [factB_at et] at q
        by_cases h4 : xs.length ≤ 4
        · rw [decide_eq_true (by simp only [List.length_cons]; omega)]
          rw [decide_eq_true h4, Bool.true_and] at q
          refine iteF ?_
          refine ⟨_, rfl, a, _, _, x, rfl, rfl, .of ha, atI_nat (j := 0) rfl, ?_⟩
          refine ⟨b, x, rfl, hs x (by simp), fun H1 s1 => ⟨_, rfl, ?_⟩⟩
          cases hw : wordV x with
          | false =>
            rw [hw] at q
            exact iteF (q _ s1)
          | true =>
            rw [hw, Bool.true_and] at q
            refine iteT ?_
            refine ⟨_, rfl, _, rfl, a, _, rfl, .of (s1 _ _ ha), ?_, fun p np => ?_⟩
            · intro hh
              have := hh.1
              rw [sIx1, List.length_cons] at this
              omega
            · rw [cutTail]
              have s2 : Same H1 (upd H1 p (.tup xs)) := same_upd np
              refine ⟨p, rfl, ⟨_, .of upd_same⟩, fun D hD => ?_⟩
              refine lcP walk_tup (fun i => V.bl (belowV 1000000000000 (xs.getD i .non))) (Nat.lt_of_le_of_lt h4 (by decide)) hD (fun _ sm => seqT sm (.of upd_same)) ?_ ?_
              · rintro i y H3 H4 Q' hi' sm ⟨rfl, hy⟩ hq
                have ey : xs.getD i .non = y := by rw [List.getD_eq_getElem?_getD, hy]; rfl
                rw [ey] at hq
                have hy2 : y ∈ x :: xs := List.mem_cons_of_mem _ (List.mem_of_getElem? hy)
                exact ⟨rfl, _, rfl, b, _, y, rfl, (hs y hy2).same (s1.trans (s2.trans sm)), hq _ (Same.refl _)⟩
              · intro H' sm hd
                refine ⟨D, (List.range xs.length).map fun i => belowV 1000000000000 (xs.getD i .non), rfl, .inl (.inl (by rw [hd, List.map_map]; rfl)), ?_⟩
                rw [range_all (belowV 1000000000000) V.non xs]
                exact q _ (s1.trans (s2.trans sm))
        · rw [decide_eq_false (by simp only [List.length_cons]; omega)]
          rw [decide_eq_false h4, Bool.false_and] at q
          exact iteT (q _ (Same.refl _))
    · rw [e2]
      rw [factB_no e1] at q
      exact iteT (q _ (Same.refl _))
theorem scTupOf : FnScope ["most", "thing"] ["most", "thing"] (defScope sTupOf) := ⟨rfl, rfl, rfl, by decide +kernel, rfl, by decide +kernel, by decide +kernel⟩
theorem ok_tupOf {f : Addr} {fd : FuncData} {k : Nat} (F : Fun K "is_tuple_of" "is_tuple_of" sTupOf f fd) (T : Tx mg) : FnOk P w K mg base CX0 (k + 1) f fd ["most", "thing"] spTupOf := by
  refine F.ok scTupOf (fun vs H Q E h => ?_) (fun cdv A outer s H vs Q E hr h => ?_)
  · obtain ⟨b, n, v, rfl, _⟩ := h
    rfl
  · obtain ⟨b, n, v, rfl, hv, q⟩ := h
    obtain ⟨t, ht⟩ := hv.th
    refine ⟨_, (pss_one (ps_ret (pe_and (pe_callB call_isTh (by rfl) T.isi (by decide +kernel) (pa_cons (pv 1) (pa_cons (pe_bltn (v := .ty "tuple") (u := .type "tuple") (by rfl) T.tuple_ (by decide +kernel) rfl) pa_nil))) (pe_one (pe_cmpR op_le (pe_callB call_len_seq (by rfl) T.len_ PySem.boot_len (pa_cons (pv 1) pa_nil)) (pv 0) (nomark _)))))), ?_⟩
    refine ⟨_, rfl, _, "tuple", t, rfl, ht, by decide, _, rfl, ?_⟩
    rcases tup_cases ht with ⟨a, xs, rfl, ha, et, rfl⟩ | ⟨e1, e2⟩
    · refine iteT ⟨_, rfl, _, _, rfl, .inr (.of ha), _, rfl, _, _, rfl, rfl, ?_⟩
      rw [tupB_at et] at q
      have e : decide ((xs.length : Int) ≤ (n : Int)) = decide (xs.length ≤ n) := by
        by_cases h : xs.length ≤ n
        · rw [decide_eq_true h, decide_eq_true (by omega)]
        · rw [decide_eq_false h, decide_eq_false (by omega)]
      show Q (.bl (decide ((xs.length : Int) ≤ (n : Int)))) H
      rw [e]
      exact q
    · rw [e2]
      rw [tupB_no e1] at q
      exact iteF q
theorem scFacts : FnScope ["most", "thing", "fact"] ["most", "thing"] (defScope sFacts) := ⟨rfl, rfl, rfl, by decide +kernel, rfl, by decide +kernel, by decide +kernel⟩
theorem ok_facts {f : Addr} {fd : FuncData} {k : Nat} (F : Fun K "is_facts" "is_facts" sFacts f fd) (T : Tx mg) (cT : Cal P w K mg base (k + 2) "is_tuple_of" ["most", "thing"] spTupOf) (cF : Cal P w K mg base (k + 2) "is_fact" ["thing"] spFact) : FnOk P w K mg base CX0 (k + 3) f fd ["most", "thing"] spFacts := by
  refine F.ok scFacts (fun vs H Q E h => ?_) (fun cdv A outer s H vs Q E hr h => ?_)
  · obtain ⟨b, n, v, rfl, _⟩ := h
    rfl
  · obtain ⟨b, n, v, rfl, hv, q⟩ := h
    obtain ⟨t, ht⟩ := hv.th
    refine ⟨_, (pss_one (ps_ret (pe_and (pe_c cT hr (by omega) (by rfl) (pa_cons (pv 0) (pa_cons (pv 1) pa_nil))) (pe_one (pe_callB (cr_all rfl) (by rfl) T.all_ (by decide +kernel) (pa_cons (pe_lc (own := [("fact", 2)]) (g := gName 2) (te := tCall spFact [] E0 (tCons (tVar 2) tNil)) rfl scFacts.nd (pi_tup (pv 1)) (blkOk_by (N := ["most", "thing", "fact"]) (sc := defScope sFacts) (by decide +kernel)) (fun _ _ _ _ _ => pg_name (i := 2) scFacts.nd rfl (Or.inl rfl)) (fun _ _ _ _ _ => pts_nil) (fun _ _ _ _ _ => (pe_c cF hr (by omega) (by rfl) (pa_cons (pv 2) pa_nil)))) pa_nil)))))), ?_⟩
    refine ⟨_, rfl, _, rfl, b, n, v, rfl, hv, _, rfl, ?_⟩
    rcases tup_cases ht with ⟨a, xs, rfl, ha, et, rfl⟩ | ⟨e1, e2⟩
    · obtain ⟨hl, hs⟩ := hv.sub ha
      rw [tupB_at et]
      rw [factsB_at et] at q
      by_cases hn : xs.length ≤ n
      · rw [decide_eq_true hn] at q ⊢
        rw [Bool.true_and] at q
        refine iteT ⟨_, rfl, a, rfl, ⟨_, .of ha⟩, fun D hD => ?_⟩
        refine lcP walk_tup (fun i => V.bl (factB H (xs.getD i .non))) (Nat.lt_of_le_of_lt hl (by decide)) hD (fun _ sm => seqT sm (.of ha)) ?_ ?_
        · rintro i y H3 H4 Q' hi' sm ⟨rfl, hy⟩ hq
          have ey : xs.getD i .non = y := by rw [List.getD_eq_getElem?_getD, hy]; rfl
          rw [ey] at hq
          have hy2 := hs y (List.mem_of_getElem? hy)
          rw [← factB_bl hy2 (.same sm)] at hq
          exact ⟨rfl, _, rfl, b, y, rfl, hy2.same sm, fun H5 s5 => hq _ s5⟩
        · intro H' sm hd
          refine ⟨D, (List.range xs.length).map fun i => factB H (xs.getD i .non), rfl, .inl (.inl (by rw [hd, List.map_map]; rfl)), ?_⟩
          rw [range_all (factB H) V.non xs]
          exact q _ sm
      · rw [decide_eq_false hn] at q ⊢
        rw [Bool.false_and] at q
        exact iteF (q _ (Same.refl _))
    · rw [tupB_no e1]
      rw [factsB_no e1] at q
      exact iteF (q _ (Same.refl _))
theorem scClause : FnScope ["thing"] ["thing"] (defScope sClause) := ⟨rfl, rfl, rfl, by decide +kernel, rfl, by decide +kernel, by decide +kernel⟩
theorem ok_clause {f : Addr} {fd : FuncData} {k : Nat} (F : Fun K "is_clause" "is_clause" sClause f fd) (T : Tx mg) (cT : Cal P w K mg base (k + 3) "is_tuple_of" ["most", "thing"] spTupOf) (cF : Cal P w K mg base (k + 3) "is_fact" ["thing"] spFact) (cS : Cal P w K mg base (k + 3) "is_facts" ["most", "thing"] spFacts) :
    FnOk P w K mg base CX0 (k + 4) f fd ["thing"] spClause := by
  obtain ⟨tm, hm⟩ := T.mb
  refine F.ok scClause (fun vs H Q E h => ?_) (fun cdv A outer s H vs Q E hr h => ?_)
  · obtain ⟨b, v, rfl, _⟩ := h
    rfl
  · obtain ⟨b, v, rfl, hv, q⟩ := h
    obtain ⟨t, ht⟩ := hv.th
    refine ⟨_, (pss_one (ps_ret (pe_and (pe_c cT hr (by omega) (by rfl) (pa_cons pe_int (pa_cons (pv 0) pa_nil))) (pe_and (pe_cmpR op_eq (pe_callB call_len_seq (by rfl) T.len_ PySem.boot_len (pa_cons (pv 0) pa_nil)) pe_int (nomark _)) (pe_and (pe_c cS hr (by omega) (by rfl) (pa_cons (pe_glob (v := .int 4) (by rfl) hm ⟨_, rfl⟩) (pa_cons (pe_ix ix_tup (pv 0) pe_int (fun _ _ => rfl)) pa_nil))) (pe_one (pe_c cF hr (by omega) (by rfl) (pa_cons (pe_ix ix_tup (pv 0) pe_int (fun _ _ => rfl)) pa_nil)))))))), ?_⟩
    refine ⟨_, rfl, b, 2, v, rfl, hv, _, rfl, ?_⟩
    rcases tup_cases ht with ⟨a, xs, rfl, ha, et, rfl⟩ | ⟨e1, e2⟩
    · obtain ⟨hl, hs⟩ := hv.sub ha
      rw [tupB_at et]
      by_cases hn : xs.length ≤ 2
      · rw [decide_eq_true hn]
        refine iteT ⟨_, rfl, a, _, rfl, .inr (.of ha), rfl, _, rfl, ?_⟩
        by_cases h2 : xs.length = 2
        · match xs, h2, hs, ha, et with
          | [x, y], _, hs, ha, et =>
            rw [clauseB_at et] at q
            rw [decide_eq_true (by rfl)]
            refine iteT ⟨_, rfl, a, _, _, x, rfl, rfl, .of ha, atI_nat (j := 0) rfl, ?_⟩
            have hy := hs y (by simp)
            refine ⟨b, 4, x, rfl, hs x (by simp), fun H1 s1 => ⟨_, rfl, ?_⟩⟩
            cases hx : factsB H 4 x with
            | false =>
              rw [hx] at q
              exact iteF (q _ s1)
            | true =>
              rw [hx, Bool.true_and, ← factB_bl hy (.same s1)] at q
              refine iteT ⟨_, rfl, a, _, _, y, rfl, rfl, .of (s1 _ _ ha), atI_nat (j := 1) rfl, ?_⟩
              exact ⟨b, y, rfl, hy.same s1, fun H2 s2 => q _ (s1.trans s2)⟩
        · rw [clauseB_len et h2] at q
          rw [decide_eq_false (fun z => h2 (by have := V.int.inj z; omega))]
          exact iteF (q _ (Same.refl _))
      · rw [clauseB_len et (by omega)] at q
        rw [decide_eq_false hn]
        exact iteF (q _ (Same.refl _))
    · rw [tupB_no e1]
      rw [clauseB_no e1] at q
      exact iteF (q _ (Same.refl _))
end
end L2.My
end
section
set_option Elab.async false
set_option linter.all false
set_option maxRecDepth 100000
set_option maxHeartbeats 4000000
/-! A for in whose body something is raised. -/
namespace L2.My
open PySem PySem.Spec PyProof.Rows
section
variable {X : Cx} {W : WX}
theorem dict_mapF (f : Array Value → Array Value) (o : Obj) : (Obj.mapFields f o).dict = o.dict := by
  unfold Obj.mapFields
  first | rfl | (split <;> rfl)
theorem zc_steady (cls : Value) (d : Option Addr) : PySem.HandSPX.Steady (Zc cls d) := fun o f h => ⟨(Obj.cls_mapFields ..).trans h.1, (dict_mapF f o).trans h.2⟩
theorem passes_xe (hs : X.stack = X.env :: X.outer) (hf : X.env.frame = some X.env.locals) : PassesOwn (model X.prog X.w) X.A X.env (XE X W) := by
  intro u s' x
  obtain ⟨a, B, sI, pins, σ, H, cls, d, rfl, I, hB, hu, hsky, ha, hos, hb, hw⟩ := x
  have fr := I.ok.frames
  rw [hs] at fr
  have key : ∀ h', PySem.HandSPX.HeldZ B X.stack a (Zc cls d) X.env.locals h' → sI.heap.UpToSlots h' → cameBackBy (model X.prog X.w) X.A X.env (XE X W) (.ref a) { s' with heap := h' } := by
    intro h' hh hu'
    unfold cameBackBy
    obtain ⟨b1, b2, b3, oe, vs, T, oT, ts, e1, e2, e3, e4, e5⟩ := id hh
    refine wpAny_bind (wpAny_field e1 e3 e4 ?_)
    have e0 : (Value.ref T == Value.none) = false := rfl
    simp only [e0, Bool.false_eq_true, if_false]
    rw [hf]
    exact PySem.HandSPX.setFlight_onZ hh fun h'' hh' hu'' => ⟨a, B, sI, pins, σ, H, cls, d, rfl, I, hB, hu'.trans hu'', .inr (.inr hh'), ha, hos, hb, hw⟩
  show wpAny _ _ (noteFrame (.ref a) X.env) (fun _ s'' => cameBackBy _ _ X.env (XE X W) (.ref a) s'') _ s'
  rcases hsky with ⟨k1, k2, k3, oe, vs, k4, k5, k6, k7⟩ | k | k
  · rw [hs] at k3
    exact PySem.HandSPX.look_newZ (zc_steady cls d) fr k3 hf k4 k1 k2 k6 k7 k5 fun h' hh hu' => key h' (by rw [hs]; exact hh) (hu.trans hu')
  · rw [hs] at k
    exact PySem.HandSPX.looks_onZ (zc_steady cls d) fr hf k fun h' hh hu' => key h' (by rw [hs]; exact hh) (hu.trans hu')
  · exact PySem.HandSPX.againZ hf k.2.2.2 (key _ k hu)
theorem takes_wish : Takes (X.wish (XE X W)) W := by
  intro u s' x
  obtain ⟨a, B, sI, pins, σ, H, cls, d, rfl, I, r⟩ := x
  exact ⟨a, B, sI, pins, σ, H, cls, d, rfl, I.unwish, r⟩
/-- a for whose body may raise: within, what is raised is wished for by W -/
theorem ps_forR {tg iter : Expr} {body : List Stmt} {wi : TI} {g : TG} {tb : TS} {pos : Pos} (hs : X.stack = X.env :: X.outer) (hf : X.env.frame = some X.env.locals) (hc : X.calm = true) (tk : Takes X W)
    (hi : PI (X.wish (XE X W)) tg iter wi) (hg : PG (X.wish (XE X W)) tg g) (hb : PSs (X.wish (XE X W)) body tb) (hx : ∀ x, foldedSetIterable iter X.env x = pure x := by intro _; rfl) : PS X (.For tg iter body [] pos) (tFor wi g tb) := by
  refine ⟨fun pins s σ H D I h => ?_⟩
  refine wpAny_mono ((ps_for (X := X.wish (XE X W)) (passes_xe hs hf) hc hi hg hb hx).run pins s σ H D (I.wish _) h) (fun q s1 z => ?_) fun e s1 x => tk e s1 x
  exact z.unwish
end
end L2.My
end
section
set_option Elab.async false
set_option linter.all false
set_option maxRecDepth 100000
set_option maxHeartbeats 4000000
namespace L2.My
open PySem PySem.Spec PyProof.Rows
/-! ### what is at fault in a rule's parts -/
inductive Part where
  | cl
  | gr
  | at_ (n : Nat)
  | gn (n : Nat)
def PartV (H : Hp) : Part → V → Prop
  | .cl, v => v = .str "clauses"
  | .gr, v => v = .str "grounds"
  | .at_ n, v => v = .int (n : Int)
  | .gn n, v => ∃ a, v = .ref a ∧ H a = some (.tup [.str "ground", .int (n : Int)])
theorem PartV.same {H H' : Hp} {p : Part} {v : V} (h : PartV H p v) (s : Same H H') : PartV H' p v := by
  cases p with
  | gn n =>
    obtain ⟨a, e, h⟩ := h
    exact ⟨a, e, s _ _ h⟩
  | _ => exact h
def badI (p : V → Bool) (xs : List V) : Option Nat := xs.findIdx? fun x => !p x
theorem badI_none {p : V → Bool} {xs : List V} : badI p xs = none ↔ ∀ x ∈ xs, p x = true := by
  unfold badI
  rw [List.findIdx?_eq_none_iff]
  constructor
  · intro h x hx
    have := h x hx
    simpa using this
  · intro h x hx
    rw [h x hx]
    rfl
theorem badI_at {p : V → Bool} : ∀ {xs : List V} {n : Nat} {x : V}, xs[n]? = some x → p x = false → (∀ j y, j < n → xs[j]? = some y → p y = true) → badI p xs = some n
  | [], n, x, h, _, _ => by simp at h
  | a :: r, 0, x, h, hp, _ => by
    have e : a = x := Option.some.inj h
    unfold badI
    rw [List.findIdx?_cons, e, hp]
    rfl
  | a :: r, n + 1, x, h, hp, hj => by
    have ha := hj 0 a (Nat.succ_pos _) rfl
    have ih := badI_at (xs := r) (n := n) (x := x) h hp fun j y hlt hy => hj (j + 1) y (Nat.succ_lt_succ hlt) hy
    unfold badI at ih ⊢
    rw [List.findIdx?_cons, ha, ih]
    rfl
def faultOf (H : Hp) (c g : V) : Option Part := match tupOf H c with
  | none => some .cl
  | some cs => match tupOf H g with
    | none => some .gr
    | some gs => if 60 < gs.length then some .gr else match badI (clauseB H) cs with
      | some n => some (.at_ n)
      | none => (badI (factsB H 5000) gs).map .gn
theorem fault_cl {H : Hp} {c g : V} (h : tupOf H c = none) : faultOf H c g = some .cl := by unfold faultOf; rw [h]
theorem fault_gr {H : Hp} {c g : V} {cs : List V} (h : tupOf H c = some cs) (h2 : tupOf H g = none) : faultOf H c g = some .gr := by unfold faultOf; rw [h, h2]
theorem fault_gl {H : Hp} {c g : V} {cs gs : List V} (h : tupOf H c = some cs) (h2 : tupOf H g = some gs) (h3 : 60 < gs.length) : faultOf H c g = some .gr := by
  unfold faultOf
  rw [h, h2]
  exact if_pos h3
theorem fault_at {H : Hp} {c g : V} {cs gs : List V} {n : Nat} (h : tupOf H c = some cs) (h2 : tupOf H g = some gs) (h3 : ¬ 60 < gs.length) (h4 : badI (clauseB H) cs = some n) : faultOf H c g = some (.at_ n) := by
  unfold faultOf
  rw [h, h2]
  dsimp only
  rw [if_neg h3, h4]
theorem fault_gn {H : Hp} {c g : V} {cs gs : List V} (h : tupOf H c = some cs) (h2 : tupOf H g = some gs) (h3 : ¬ 60 < gs.length) (h4 : badI (clauseB H) cs = none) : faultOf H c g = (badI (factsB H 5000) gs).map .gn := by
  unfold faultOf
  rw [h, h2]
  dsimp only
  rw [if_neg h3, h4]
theorem faultOf_bl {b : Addr} {H H' : Hp} {c g : V} (hc : Thg b H c) (hg : Thg b H g) (s : BL [b] H H') : faultOf H' c g = faultOf H c g := by
  unfold faultOf
  rw [tupOf_bl hc s, tupOf_bl hg s]
  cases e1 : tupOf H c with
  | none => rfl
  | some cs =>
    cases e2 : tupOf H g with
    | none => rfl
    | some gs =>
      obtain ⟨a, _, _, _, q⟩ := tupOf_sub hc e1
      obtain ⟨a2, _, _, _, q2⟩ := tupOf_sub hg e2
      dsimp only
      have f1 : badI (clauseB H') cs = badI (clauseB H) cs := by
        unfold badI
        have : ∀ xs : List V, (∀ x ∈ xs, Thg b H x) → xs.findIdx? (fun x => !clauseB H' x) = xs.findIdx? (fun x => !clauseB H x) := by
          intro xs
          induction xs with
          | nil => intro _; rfl
          | cons x r ih =>
            intro h
            rw [List.findIdx?_cons, List.findIdx?_cons, clauseB_bl (h x List.mem_cons_self) s, ih fun y hy => h y (List.mem_cons_of_mem _ hy)]
        exact this cs q
      have f2 : badI (factsB H' 5000) gs = badI (factsB H 5000) gs := by
        unfold badI
        have : ∀ xs : List V, (∀ x ∈ xs, Thg b H x) → xs.findIdx? (fun x => !factsB H' 5000 x) = xs.findIdx? (fun x => !factsB H 5000 x) := by
          intro xs
          induction xs with
          | nil => intro _; rfl
          | cons x r ih =>
            intro h
            rw [List.findIdx?_cons, List.findIdx?_cons, factsB_bl (h x List.mem_cons_self) s, ih fun y hy => h y (List.mem_cons_of_mem _ hy)]
        exact this gs q2
      rw [f1, f2]
/-! ### the error -/
def spPart (C : Addr) : Sp := fun vs H Q _ => ∃ a v, vs = [.ref a, v] ∧ H a = some (exo a C none) ∧ ∀ dx H2, H dx = none → dx ≠ a → H2 = upd (upd H dx (exd dx [("part", v)])) a (exo a C (some dx)) → Q .non H2
/-- the facts of BadRule -/
structure BadC (P : Program) (w : World) (K : PySem.W.Frag) (mg : Str → Option Value) (base : Heap) (C : Addr) where
  x : XC K C
  no : PySem.W.findIn K (.ref C) "part" = some none
  fI : Addr
  fd : FuncData
  i : PySem.W.findIn K (.ref C) "__init__" = some (some (.ref fI))
  t : PySem.W.typeIn K (.ref fI) = some (.type "function")
  F : FnOk P w K mg base CX0 1 fI fd ["self", "part"] (spPart C)
  b : Binds K fd ["self", "part"] []
  g : mg "BadRule" = some (.ref C)
  P0 : Addr
  gP : mg "PostError" = some (.ref P0)
  ve : mg "ValueError" = none
  kP : PySem.W.kitOne K (.ref C) (.ref P0) = some true
  kV : PySem.W.kitOne K (.ref C) (.type "ValueError") = some true
  te : PySem.W.exmOne K (.ref C) (.ref C) = some true
theorem bad_of {C : Addr} {H1 : Hp} {v : V} {Q : XK} (h : ∀ H2 d, Same H1 H2 → H1 d = none → H2 d = some (.xd [("part", v)]) → Q (.ref C) (some d) H2) :
    [v].length ≤ 1000 ∧ ∀ a, H1 a = none → spPart C (.ref a :: ([v] ++ [])) (upd H1 a (exo a C none)) (fun u H2 => u = .non ∧ ∃ (d : Addr) (fs : List (Str × V)), H2 a = some (exo a C (some d)) ∧ H2 d = some (exd d fs) ∧ H1 d = none ∧ Q (.ref C) (some d) (upd (del H2 a) d (.xd fs))) (fun _ _ _ => False) := by
  refine ⟨by show 1 ≤ 1000; decide, fun a ha => ⟨a, v, rfl, upd_same, fun dx H2 hdx ne e => ⟨rfl, dx, [("part", v)], ?_, ?_, ?_, ?_⟩⟩⟩
  · rw [e, upd_same]
  · rw [e, upd_ne ne, upd_same]
  · rw [upd_ne ne] at hdx; exact hdx
  · have hd1 : H1 dx = none := by rw [upd_ne ne] at hdx; exact hdx
    refine h _ dx (fun p o hp => ?_) hd1 upd_same
    have n1 : p ≠ dx := fun z => by rw [z, hd1] at hp; cases hp
    have n2 : p ≠ a := fun z => by rw [z, ha] at hp; cases hp
    rw [upd_ne n1]
    show (if p = a then none else H2 p) = some o
    rw [if_neg n2, e, upd_ne n2, upd_ne n1, upd_ne n2]
    exact hp
abbrev sBad : Stmt := mB 0
def spRule (C B : Addr) : Sp := fun vs H Q E => ∃ b x dx c g, vs = [.ref x, c, g] ∧ H x = some (.ins C dx []) ∧ Thg b H c ∧ Thg b H g ∧
  (faultOf H c g = none → ∀ H', BL [x] H H' → H' x = some (.ins C dx [("clauses", c), ("grounds", g)]) → Q .non H') ∧
  (∀ p, faultOf H c g = some p → ∀ H' d v, Same H H' → PartV H' p v → H d = none → H' d = some (.xd [("part", v)]) → E (.ref B) (some d) H')
abbrev nRu : List Str := ["self", "clauses", "grounds", "at", "clause", "ground"]
section
variable {P : Program} {w : World} {K : PySem.W.Frag} {mg : Str → Option Value} {base : Heap} {C B : Addr}
theorem scBad : FnScope ["self", "part"] ["self", "part"] (defScope sBad) := ⟨rfl, rfl, rfl, by decide +kernel, rfl, by decide +kernel, by decide +kernel⟩
theorem ok_bad {f : Addr} {fd : FuncData} (F : Fun K "__init__" "BadRule.__init__" sBad f fd) (T : OexC K C) (hno : PySem.W.findIn K (.ref C) "part" = some none) : FnOk P w K mg base CX0 1 f fd ["self", "part"] (spPart C) := by
  refine F.ok scBad (fun vs H Q E h => ?_) (fun cdv A outer s H vs Q E hr h => ?_)
  · obtain ⟨a, v, rfl, _⟩ := h
    rfl
  · obtain ⟨a, v, rfl, ha, q⟩ := h
    exact ⟨_, pss_one (ps_ost (pv 0) (pv 1)), ⟨_, rfl, _, rfl, a, C, rfl, T, hno, .inl ⟨ha, fun dx n ne => q dx _ n ne rfl⟩⟩⟩
theorem scRu : FnScope nRu ["self", "clauses", "grounds"] (defScope (mR 0)) := ⟨rfl, rfl, rfl, by decide +kernel, rfl, by decide +kernel, by decide +kernel⟩
theorem ok_rule {f : Addr} {fd : FuncData} {k : Nat} (F : Fun K "__init__" "Rule.__init__" (mR 0) f fd) (T : Tx mg) (c : RuC K C) (N : BadC P w K mg base B) (cT : Cal P w K mg base (k + 4) "is_tuple_of" ["most", "thing"] spTupOf) (cC : Cal P w K mg base (k + 4) "is_clause" ["thing"] spClause) (cS : Cal P w K mg base (k + 4) "is_facts" ["most", "thing"] spFacts) :
    FnOk P w K mg base (CX P w) (k + 5) f fd ["self", "clauses", "grounds"] (spRule C B) := by
  obtain ⟨t1, h1⟩ := T.mc
  obtain ⟨t2, h2⟩ := T.mgr
  obtain ⟨t3, h3⟩ := T.mf
  refine F.okX scRu (fun vs H Q E h => ?_) (fun cdv A outer s H vs Q E hr h => ?_)
  · obtain ⟨b, x, dx, c, g, rfl, _⟩ := h
    rfl
  · obtain ⟨b, x, dx, cl, gr, rfl, hx, hc, hg, q, qe⟩ := h
    have tk := takes_of (X := cxOf (CX P w) P w K mg base nRu "Rule.__init__" (defScope (mR 0)) f cdv A outer s H E) (E := E) rfl rfl rfl rfl
    refine ⟨_, (pss_cons (ps_if (pt_not (pt_val (pe_c cT hr (by omega) (by rfl) (pa_cons (pe_glob (v := .int 20000) (by rfl) h1 ⟨_, rfl⟩) (pa_cons (pv 1) pa_nil))))) (pss_one (ps_raise rfl tk (pmk_oex N.x.o N.i N.t N.F (hr.mono (by omega)) N.b .nil pass0 (by rfl) N.g (pa_cons pe_str pa_nil)))) pss_nil) (pss_cons (ps_if (pt_not (pt_val (pe_c cT hr (by omega) (by rfl) (pa_cons (pe_glob (v := .int 60) (by rfl) h2 ⟨_, rfl⟩) (pa_cons (pv 2) pa_nil))))) (pss_one (ps_raise rfl tk (pmk_oex N.x.o N.i N.t N.F (hr.mono (by omega)) N.b .nil pass0 (by rfl) N.g (pa_cons pe_str pa_nil)))) pss_nil) (pss_cons (ps_forR rfl rfl rfl tk (pi_enT (by rfl) T.enum_ (pa_cons (pv 1) pa_nil)) (pg_tup rfl (pgs_cons (pg_name (i := 3) scRu.nd rfl (Or.inl rfl)) (pgs_cons (pg_name (i := 4) scRu.nd rfl (Or.inl rfl)) pgs_nil))) (pss_one (ps_if (pt_not (pt_val (pe_c cC hr (by omega) (by rfl) (pa_cons (pv 4) pa_nil)))) (pss_one (ps_raise rfl takes_wish (pmk_oex N.x.o N.i N.t N.F (hr.mono (by omega)) N.b .nil pass0 (by rfl) N.g (pa_cons (pv 3) pa_nil)))) pss_nil))) (pss_cons (ps_forR rfl rfl rfl tk (pi_enT (by rfl) T.enum_ (pa_cons (pv 2) pa_nil)) (pg_tup rfl (pgs_cons (pg_name (i := 3) scRu.nd rfl (Or.inl rfl)) (pgs_cons (pg_name (i := 5) scRu.nd rfl (Or.inl rfl)) pgs_nil))) (pss_one (ps_if (pt_not (pt_val (pe_c cS hr (by omega) (by rfl) (pa_cons (pe_glob (v := .int 5000) (by rfl) h3 ⟨_, rfl⟩) (pa_cons (pv 5) pa_nil))))) (pss_one (ps_raise rfl takes_wish (pmk_oex N.x.o N.i N.t N.F (hr.mono (by omega)) N.b .nil pass0 (by rfl) N.g (pa_cons (pe_tup (pa_cons pe_str (pa_cons (pv 3) pa_nil))) pa_nil)))) pss_nil))) (pss_cons (ps_fld (pv 0) (pv 1) rfl) (pss_one (ps_fld (pv 0) (pv 2) rfl))))))), ?_⟩
    refine ⟨_, rfl, b, 20000, cl, rfl, hc, _, rfl, ?_⟩
    obtain ⟨tc, htc⟩ := hc.th
    rcases tup_cases htc with ⟨ca, cs, rfl, hca, ec, rfl⟩ | ⟨e1, e2⟩
    rotate_left
    · rw [tupB_no e1]
      exact iteT (bad_of fun H2 d s n e => qe _ (fault_cl e1) H2 d _ s rfl n e)
    obtain ⟨hcl, hcs⟩ := hc.sub hca
    rw [tupB_at ec, decide_eq_true (show cs.length ≤ 20000 by omega)]
    refine iteF ?_
    refine ⟨_, rfl, b, 60, gr, rfl, hg, _, rfl, ?_⟩
    obtain ⟨tg, htg⟩ := hg.th
    rcases tup_cases htg with ⟨ga, gs, rfl, hga, eg, rfl⟩ | ⟨e1, e2⟩
    rotate_left
    · rw [tupB_no e1]
      exact iteT (bad_of fun H2 d s n e => qe _ (fault_gr ec e1) H2 d _ s rfl n e)
    obtain ⟨hgl, hgs⟩ := hg.sub hga
    rw [tupB_at eg]
    by_cases h60 : gs.length ≤ 60
    rotate_left
    · rw [decide_eq_false h60]
      exact iteT (bad_of fun H2 d s n e => qe _ (fault_gl ec eg (by omega)) H2 d _ s rfl n e)
    rw [decide_eq_true h60]
    refine iteF ?_
    refine ⟨_, rfl, ca, _, rfl, .of hca, ?_⟩
    refine for_it (walk_enT (xs := cs)) (fun i σ G => ∃ y z, σ = [some (.ref x), some (.ref ca), some (.ref ga), y, z, none] ∧ Same H G ∧ ∀ j u, j < i → cs[j]? = some u → clauseB H u = true) ⟨_, _, rfl, Same.refl H, fun j u hj => absurd hj (Nat.not_lt_zero _)⟩ (fun i σ G _ h => ?_) ?_ ?_
    · obtain ⟨y, z, rfl, sm, _⟩ := h
      exact .of (sm _ _ hca)
    · rintro i v σ G G' hi ⟨y, z, rfl, sm, hj⟩ ⟨p, u1, u2, rfl, np, rfl, e1, e2⟩
      cases Option.some.inj e1
      have e2' : cs[i]? = some u2 := e2
      have hu2 := hcs u2 (List.mem_of_getElem? e2')
      have s1 : Same G (upd G p (.tup [.int (i : Nat), u2])) := same_upd np
      refine ⟨p, _, rfl, .of upd_same, rfl, _, _, rfl, _, _, rfl, rfl, ?_⟩
      refine ⟨_, rfl, b, u2, rfl, hu2.same (sm.trans s1), fun H2 s2 => ⟨_, rfl, ?_⟩⟩
      rw [clauseB_bl hu2 (.same (sm.trans s1))]
      cases hb : clauseB H u2 with
      | true =>
        refine iteF ⟨_, _, rfl, sm.trans (s1.trans s2), fun j u hlt hu => ?_⟩
        rcases Nat.lt_succ_iff_lt_or_eq.mp hlt with z | z
        · exact hj j u z hu
        · rw [z, e2'] at hu; cases hu; exact hb
      | false =>
        refine iteT ⟨_, rfl, bad_of fun H3 d s n e => ?_⟩
        have sA := sm.trans (s1.trans s2)
        exact qe _ (fault_at ec eg (by omega) (badI_at e2' hb hj)) H3 d _ (sA.trans s) rfl (sA.free n) e
    · rintro σ G ⟨y, z, rfl, sm, hj⟩
      have nc : badI (clauseB H) cs = none := badI_none.mpr fun u hu => by
        obtain ⟨j, hjl, e⟩ := List.getElem_of_mem hu
        exact hj j u hjl (by rw [List.getElem?_eq_getElem hjl, e])
      refine ⟨_, rfl, ga, _, rfl, .of (sm _ _ hga), ?_⟩
      refine for_it (walk_enT (xs := gs)) (fun i σ G => ∃ y z z2, σ = [some (.ref x), some (.ref ca), some (.ref ga), y, z, z2] ∧ Same H G ∧ ∀ j u, j < i → gs[j]? = some u → factsB H 5000 u = true) ⟨_, _, _, rfl, sm, fun j u hj => absurd hj (Nat.not_lt_zero _)⟩ (fun i σ G _ h => ?_) ?_ ?_
      · obtain ⟨y, z, z2, rfl, sm, _⟩ := h
        exact .of (sm _ _ hga)
      · rintro i v σ G G' hi ⟨y, z, z2, rfl, sm, hj⟩ ⟨p, u1, u2, rfl, np, rfl, e1, e2⟩
        cases Option.some.inj e1
        have e2' : gs[i]? = some u2 := e2
        have hu2 := hgs u2 (List.mem_of_getElem? e2')
        have s1 : Same G (upd G p (.tup [.int (i : Nat), u2])) := same_upd np
        refine ⟨p, _, rfl, .of upd_same, rfl, _, _, rfl, _, _, rfl, rfl, ?_⟩
        refine ⟨_, rfl, b, 5000, u2, rfl, hu2.same (sm.trans s1), fun H2 s2 => ⟨_, rfl, ?_⟩⟩
        rw [factsB_bl hu2 (.same (sm.trans s1))]
        cases hb : factsB H 5000 u2 with
        | true =>
          refine iteF ⟨_, _, _, rfl, sm.trans (s1.trans s2), fun j u hlt hu => ?_⟩
          rcases Nat.lt_succ_iff_lt_or_eq.mp hlt with z | z
          · exact hj j u z hu
          · rw [z, e2'] at hu; cases hu; exact hb
        | false =>
          refine iteT ⟨_, rfl, by show 2 ≤ sizeLine; decide, fun t nt => bad_of fun H3 d s n e => ?_⟩
          have s3 := same_upd (o := HO.tup [.str "ground", .int (i : Nat)]) nt
          have sA := sm.trans (s1.trans (s2.trans s3))
          exact qe (.gn i) (by rw [fault_gn ec eg (by omega) nc, badI_at e2' hb hj]; rfl) H3 d _ (sA.trans s) ⟨t, rfl, s _ _ upd_same⟩ (sA.free n) e
      · rintro σ G ⟨y, z, z2, rfl, sm, hj⟩
        have ng : badI (factsB H 5000) gs = none := badI_none.mpr fun u hu => by
          obtain ⟨j, hjl, e⟩ := List.getElem_of_mem hu
          exact hj j u hjl (by rw [List.getElem?_eq_getElem hjl, e])
        refine ⟨_, rfl, _, rfl, x, C, dx, _, rfl, sm _ _ hx, c.cls, c.na _ (by simp), by show 0 < 1000; decide, ?_⟩
        refine ⟨_, rfl, _, rfl, x, C, dx, _, rfl, upd_same, c.cls, c.na _ (by simp), by show 1 < 1000; decide, ?_⟩
        have b1 : BL [x] H (upd (upd G x (.ins C dx (putF "clauses" (.ref ca) []))) x (.ins C dx (putF "grounds" (.ref ga) (putF "clauses" (.ref ca) [])))) := BL.trans (.same sm) (BL.trans (.upd (by simp)) (.upd (by simp)))
        exact q (by rw [fault_gn ec eg (by omega) nc, ng]; rfl) _ b1 (by rw [upd_same]; rfl)
end
end L2.My
end
section
set_option Elab.async false
set_option linter.all false
set_option maxRecDepth 100000
set_option maxHeartbeats 4000000
namespace L2.My
open PySem PySem.Spec PyProof.Rows
abbrev sTold : Stmt := top 35
abbrev nTo : List Str := ["clauses", "grounds", "found", "e"]
theorem pss_imp {X : Cx} {st : List Stmt} {t t' : TS} (n : Nat) (hn : X.N.length = n) (h : PSs X st t) (hi : ∀ D σ H, σ.length = n → t' D σ H → t D σ H) : PSs X st t' := ⟨fun pins s σ H D I hw => h.run pins s σ H D I (hi D σ H (I.len.trans hn) hw)⟩
theorem len4 {α : Type} {l : List α} (h : l.length = 4) : ∃ x0 x1 x2 x3, l = [x0, x1, x2, x3] := by
  match l, h with
  | [x0, x1, x2, x3], _ => exact ⟨x0, x1, x2, x3, rfl⟩
section
variable {X : Cx}
/-- isinstance of the caught error that has a dict -/
def rIsS (K : PySem.W.Frag) (a : Addr) (cls : Value) (d : Option Addr) : List V → Hp → VK → Prop := fun xs H Q => ∃ (C dd : Addr) (fs : List (Str × V)) (c : V) (u : Value) (b : Bool), cls = .ref C ∧ d = some dd ∧ H dd = some (.xd fs) ∧ XC K C ∧ xs = [.ref a, c] ∧ ClsV c u ∧ PySem.W.kitOne K (.ref C) u = some b ∧ Q (.bl b) H
theorem inst_suite {a C dd : Addr} {oe : Obj} {pn pins : List (Addr × Obj)} {σ : St} {H : Hp} {s : Shared} {fs : List (Str × V)} (hz : Zc (.ref C) (some dd) oe) (hf : ∃ vs, oe.data = .fields vs) (I : Inv (X.suite a ((a, oe) :: pn)) pins σ H s) (ea : H dd = some (.xd fs)) : ∃ od, s.heap.get? dd = some od ∧ PySem.W.InstAt s.heap a oe C (some od) ∧ ∃ mA, s.heap.Ns1 dd mA ∧ ∀ f, RelO (fs.lookup f) (mA f) := by
  obtain ⟨ha, _⟩ := I.pin (a, oe) (List.mem_append_left _ List.mem_cons_self)
  obtain ⟨vs, hd⟩ := hf
  have hx : ObjOk X.prog X.w H s.heap dd (.xd fs) := I.hok dd _ ea
  obtain ⟨mA, hns, hr⟩ := hx
  obtain ⟨od, ho, hl⟩ := lookIn_ns hns
  exact ⟨od, ho, ⟨ha, hz.1, by unfold PySem.W.notCls; rw [hd] <;> rfl, by rw [hz.2]; exact ho⟩, mA, hns, hr⟩
theorem call_isS {a : Addr} {oe : Obj} {cls : Value} {d : Option Addr} {pn : List (Addr × Obj)} (hz : Zc cls d oe) (hf : ∃ vs, oe.data = .fields vs) : CallR (X.suite a ((a, oe) :: pn)) (.builtin "isinstance") (rIsS X.K a cls d) := by
  intro pins s σ H xs us Q I r h
  obtain ⟨C, dd, fs, c, u, b, rfl, rfl, ed, T, rfl, k, e, q⟩ := h
  obtain ⟨u1, u2, rfl, r1, r2⟩ := vals2 r
  have e2 := k.eq r2
  subst e2
  cases (show u1 = Value.ref a from r1)
  obtain ⟨od, _, J, _⟩ := inst_suite hz hf I ed
  exact PySem.W.kia_one (PySem.W.kitx_exc T.cl T.hga T.hgt T.o.exC T.ha T.hn T.ht T.hm) I.kIn J e (fun z => nomatch z) fun tk => ⟨.bl b, H, I.tok tk, rfl, q⟩
/-- e.f, e the error that the suite holds -/
def tXby (K : PySem.W.Frag) (a : Addr) (cls : Value) (d : Option Addr) (f : Str) (te : TE) : TE := fun σ H Q => te σ H fun x H1 => ∃ (C dd : Addr) (fs : List (Str × V)) (v : V), x = .ref a ∧ cls = .ref C ∧ d = some dd ∧ XC K C ∧ PySem.W.findIn K (.ref C) f = some none ∧ H1 dd = some (.xd fs) ∧ fs.lookup f = some v ∧ Q v H1
theorem pe_xby {a : Addr} {oe : Obj} {cls : Value} {d : Option Addr} {pn : List (Addr × Obj)} {e : Expr} {te : TE} {pos : Pos} {n : Str} (hz : Zc cls d oe) (hf : ∃ vs, oe.data = .fields vs) (he : PE (X.suite a ((a, oe) :: pn)) e te)
    (hb : attributeBase e n X.env (eval e X.env) = eval e X.env := by rfl) : PE (X.suite a ((a, oe) :: pn)) (.Attribute e n pos) (tXby X.K a cls d n te) := by
  refine ⟨fun pins s σ H Q I h => ?_⟩
  refine attr_of hb (thn (he.run pins s σ H _ I h) fun u s1 hh => ?_)
  obtain ⟨x, H1, I1, rx, C, dd, fs, v, ex, ec, ed, T, hno, ea, l, q⟩ := hh
  subst ex
  obtain rfl : u = Value.ref a := rx
  subst ec
  subst ed
  obtain ⟨od, ho, J, mA, hns, hr⟩ := inst_suite hz hf I1 ea
  obtain ⟨od2, ho2, hl⟩ := lookIn_ns hns
  rw [ho] at ho2
  cases ho2
  obtain ⟨u, hu, ru⟩ := RelO.some_of (v := v) (o := mA n) (by rw [← l]; exact hr n)
  exact HandSPX.exc_get I1.kIn J T.hga T.hgt T.o.exC (PySem.W.findObj_own T.hd hno rfl (by rw [hl, hu])) (handed_of ru) ⟨v, H1, I1.tok _, ru, q⟩
end
/-- what makes a rule -/
structure MkRu (P : Program) (w : World) (K : PySem.W.Frag) (mg : Str → Option Value) (base : Heap) (k : Nat) (C B : Addr) where
  f : Addr
  fd : FuncData
  M : Mk K C f
  F : FnOk P w K mg base (CX P w) k f fd ["self", "clauses", "grounds"] (spRule C B)
  g : mg "Rule" = some (.ref C)
  b : Binds K fd ["self", "clauses", "grounds"] []
def spTold (C B : Addr) : Sp := fun vs H Q _ => ∃ b c g, vs = [c, g] ∧ Thg b H c ∧ Thg b H g ∧
  (faultOf H c g = none → ∀ H' t r dx, Same H H' → H r = none → H' t = some (.tup [.str "let", .ref r]) → H' r = some (.ins C dx [("clauses", c), ("grounds", g)]) → Q (.ref t) H') ∧
  (∀ p, faultOf H c g = some p → ∀ H' t v, Same H H' → PartV H' p v → H' t = some (.tup [.str "refused", v]) → Q (.ref t) H')
def tSuite (B a : Addr) (cls : Value) (d : Option Addr) : TS := fun D σ H => ∃ dd v, cls = .ref B ∧ d = some dd ∧ H dd = some (.xd [("part", v)]) ∧ (σ.length = 4 → σ[3]? = some (some (.ref a))) ∧ ∀ p H2, σ.length = 4 → Same H H2 → H2 p = some (.tup [.str "refused", v]) → D.nx (σ.set 2 (some (.ref p))) H2
section
variable {P : Program} {w : World} {K : PySem.W.Frag} {mg : Str → Option Value} {base : Heap} {C B : Addr}
theorem scTold : FnScope nTo ["clauses", "grounds"] (defScope sTold) := ⟨rfl, rfl, rfl, by decide +kernel, rfl, by decide +kernel, by decide +kernel⟩
theorem ok_told {f : Addr} {fd : FuncData} {k : Nat} (F : Fun K "_law_rule_told" "_law_rule_told" sTold f fd) (T : Tx mg) (N : BadC P w K mg base B) (R : MkRu P w K mg base (k + 5) C B) : FnOk P w K mg base CX0 (k + 7) f fd ["clauses", "grounds"] (spTold C B) := by
  refine F.ok scTold (fun vs H Q E h => ?_) (fun cdv A outer s H vs Q E hr h => ?_)
  · obtain ⟨b, c, g, rfl, _⟩ := h
    rfl
  · obtain ⟨b, c, g, rfl, hc, hg, q, qe⟩ := h
    refine ⟨_, pss_cons (ps_try_as (X := (cxOf CX0 P w K mg base nTo "_law_rule_told" (defScope sTold) f cdv A outer s H E).nox) (i := 3) (c := .ref B) (ts := tSuite B)
      (tb := fun W D σ H => ∃ Ech : XK, (∀ cls d σ' H', Ech cls d H' → W cls d σ' H') ∧ tAsg (tTup (tCons (tC (.str "let")) (tCons (tMake C (spRule C B) [] Ech (tCons (tVar 0) (tCons (tVar 1) tNil))) tNil))) (gName 2) D σ H)
      rfl rfl scTold.nd rfl rfl ⟨rfl, rfl, .inl N.g⟩ takes0 (fun W pn xe tk _ => ?_) (fun a oe cls d pn hz hf => pss_imp 4 rfl (pss_one (ps_set (i := 2) scTold.nd rfl (Or.inl rfl)
        (pe_ifExp (pt_and (pt_val (pe_callB (call_isS (X := (cxOf CX0 P w K mg base nTo "_law_rule_told" (defScope sTold) f cdv A outer s H E).nox) hz hf) (by rfl) T.isi (by decide +kernel) (pa_cons (pv 3) (pa_cons (pe_glob (v := .ref N.P0) (by rfl) N.gP rfl) pa_nil))))
            (pw_and1 (pt_val (pe_callB (call_isS (X := (cxOf CX0 P w K mg base nTo "_law_rule_told" (defScope sTold) f cdv A outer s H E).nox) hz hf) (by rfl) T.isi (by decide +kernel) (pa_cons (pv 3) (pa_cons (pe_bltn (v := .ty "ValueError") (u := .type "ValueError") (by rfl) N.ve (by decide +kernel) rfl) pa_nil))))))
          (pe_tup (pa_cons pe_str (pa_cons (pe_xby (X := (cxOf CX0 P w K mg base nTo "_law_rule_told" (defScope sTold) f cdv A outer s H E).nox) hz hf (pv 3)) pa_nil)))
          (pe_tup (pa_cons pe_str (pa_cons pe_non pa_nil)))))) ?_))
      (pss_one (ps_ret (pv 2))), ?_⟩
    · refine ⟨fun pins s' σ H' D I h' => ?_⟩
      obtain ⟨Ech, hW, h1⟩ := h'
      exact (pss_one (ps_set (i := 2) scTold.nd rfl (Or.inl rfl) (pe_tup (pa_cons pe_str (pa_cons (pe_make R.M R.F (hr.mono (by omega)) (by rfl) R.g R.b .nil (passes_call tk hW) (pa_cons (pv 0) (pa_cons (pv 1) pa_nil))) pa_nil))))).run pins s' σ H' D I h1
    · rintro D σ H2 hl ⟨dd, v, rfl, rfl, ed, e2, q2⟩
      have e2 := e2 hl
      have q2 := fun p H3 => q2 p H3 hl
      obtain ⟨x0, x1, x2, x3, rfl⟩ := len4 hl
      obtain rfl : x3 = some (.ref a) := Option.some.inj e2
      refine ⟨_, rfl, B, dd, _, .ref N.P0, _, _, rfl, rfl, ed, N.x, rfl, .own _, N.kP, _, rfl, iteT ?_⟩
      refine ⟨_, rfl, B, dd, _, .ty "ValueError", _, _, rfl, rfl, ed, N.x, rfl, .ty _, N.kV, _, rfl, iteT ?_⟩
      refine ⟨_, rfl, B, dd, _, v, rfl, rfl, rfl, N.x, N.no, ed, rfl, by show 2 ≤ sizeLine; decide, fun p np => ?_⟩
      exact q2 p _ (same_upd np) upd_same
    · refine ⟨fun cls d H' => cls = .ref B ∧ ∃ dd v, d = some dd ∧ Same H H' ∧ H' dd = some (.xd [("part", v)]) ∧ ∃ p, faultOf H c g = some p ∧ PartV H' p v, ?_, ?_⟩
      · rintro cls d σ' H' ⟨rfl, dd, v, rfl, sm, ed, p, hp, pv⟩
        refine ⟨true, N.te, fun _ a ha => ⟨dd, v, rfl, rfl, ed, fun hl => ?_, fun t H2 hl s2 h2 => ?_⟩, fun z => nomatch z⟩
        · rw [List.length_set] at hl
          obtain ⟨x0, x1, x2, x3, rfl⟩ := len4 hl
          rfl
        · rw [List.length_set] at hl
          obtain ⟨x0, x1, x2, x3, rfl⟩ := len4 hl
          exact ⟨.ref t, rfl, qe p hp H2 t v (sm.trans s2) (pv.same s2) h2⟩
      · refine ⟨_, rfl, _, rfl, fun x dx nx ndx ne => ?_⟩
        have s1 : Same H (upd (upd H dx (.own x)) x (.ins C dx [])) := (same_upd ndx).trans (same_upd (by rw [upd_ne (Ne.symm ne)]; exact nx))
        refine ⟨b, x, dx, c, g, rfl, upd_same, hc.same s1, hg.same s1, fun hn H' bl hx' => ⟨rfl, by show 2 ≤ sizeLine; decide, fun t nt => ?_⟩, fun p hp H' d v sm pv nd ed => ?_⟩
        · rw [faultOf_bl hc hg (.same s1)] at hn
          have s3 : Same H H' := fun p o hp => bl p o (by
            intro hm
            rw [List.mem_singleton.mp hm, nx] at hp
            cases hp) (s1 _ _ hp)
          have s4 := same_upd (o := HO.tup [.str "let", .ref x]) nt
          exact ⟨_, rfl, q hn _ t x dx (s3.trans s4) nx upd_same (s4 _ _ hx')⟩
        · rw [faultOf_bl hc hg (.same s1)] at hp
          exact ⟨rfl, d, v, rfl, s1.trans sm, ed, p, hp, pv⟩
end
end L2.My
end
section
set_option Elab.async false
set_option linter.all false
set_option maxRecDepth 100000
set_option maxHeartbeats 4000000
namespace L2.My
open PySem PySem.Spec PyProof.Rows
abbrev sLif : Stmt := top 31
abbrev sNum : Stmt := top 32
abbrev sFault : Stmt := top 34
abbrev nFa : List Str := ["clauses", "grounds", "number", "clause", "ground", "one"]
def spNum : Sp := fun vs H Q _ => ∃ (b : Addr) (n : Int) (v : V), vs = [v, .int n] ∧ Thg b H v ∧ Q (.bl (belowV n v)) H
def spFault : Sp := fun vs H Q _ => ∃ b c g, vs = [c, g] ∧ Thg b H c ∧ Thg b H g ∧ (faultOf H c g = none → ∀ H', Same H H' → Q .non H') ∧ (∀ p, faultOf H c g = some p → ∀ H' v, Same H H' → PartV H' p v → Q v H')
theorem letters : ("abcdefghijklmnopqrstuvwxyz" : Str).cps.toList = [97, 98, 99, 100, 101, 102, 103, 104, 105, 106, 107, 108, 109, 110, 111, 112, 113, 114, 115, 116, 117, 118, 119, 120, 121, 122] := by decide +kernel
theorem in_letters (c : Nat) : decide (c ∈ ("abcdefghijklmnopqrstuvwxyz" : Str).cps.toList) = signB c := by
  rw [letters]
  unfold signB
  rw [← Bool.decide_and]
  refine decide_eq_decide.mpr ?_
  simp only [List.mem_cons, List.not_mem_nil, or_false]
  omega
section
variable {P : Program} {w : World} {K : PySem.W.Frag} {mg : Str → Option Value} {base : Heap}
theorem scNum : FnScope ["thing", "many"] ["thing", "many"] (defScope sNum) := ⟨rfl, rfl, rfl, by decide +kernel, rfl, by decide +kernel, by decide +kernel⟩
theorem ok_num {f : Addr} {fd : FuncData} {k : Nat} (F : Fun K "_law_is_number" "_law_is_number" sNum f fd) (T : Tx mg) : FnOk P w K mg base CX0 (k + 1) f fd ["thing", "many"] spNum := by
  refine F.ok scNum (fun vs H Q E h => ?_) (fun cdv A outer s H vs Q E hr h => ?_)
  · obtain ⟨b, n, v, rfl, _⟩ := h
    rfl
  · obtain ⟨b, n, v, rfl, hv, q⟩ := h
    obtain ⟨t, ht⟩ := hv.th
    refine ⟨_, (pss_one (ps_ret (pe_and (pe_callB call_isTh (by rfl) T.isi (by decide +kernel) (pa_cons (pv 0) (pa_cons (pe_bltn (v := .ty "int") (u := .type "int") (by rfl) T.int_ (by decide +kernel) rfl) pa_nil))) (pe_and (pe_not (pe_callB call_isTh (by rfl) T.isi (by decide +kernel) (pa_cons (pv 0) (pa_cons (pe_bltn (v := .ty "bool") (u := .type "bool") (by rfl) T.bool_ (by decide +kernel) rfl) pa_nil)))) (pe_one (pe_chain op_le op_lt pe_int (pv 0) (pv 1))))))), ?_⟩
    refine ⟨_, rfl, _, "int", t, rfl, ht, by decide, _, rfl, ?_⟩
    rcases int_cases (n := n) ht with ⟨i, rfl, rfl⟩ | ⟨c, rfl, rfl⟩ | ⟨e1, e2⟩
    · refine iteT ⟨_, rfl, _, "bool", _, rfl, .int i, by decide, _, rfl, _, rfl, iteT ?_⟩
      refine ⟨_, rfl, _, _, rfl, rfl, _, rfl, ?_⟩
      by_cases h0 : 0 ≤ i
      · rw [decide_eq_true h0]
        refine iteT ⟨_, rfl, _, _, rfl, rfl, ?_⟩
        have e : belowV n (.int i) = decide (i < n) := by
          show decide (0 ≤ i ∧ i < n) = _
          simp [h0]
        rw [e] at q
        exact q
      · rw [decide_eq_false h0]
        refine iteF ?_
        have e : belowV n (.int i) = false := decide_eq_false fun z => h0 z.1
        rw [e] at q
        exact q
    · exact iteT ⟨_, rfl, _, "bool", _, rfl, .bl c, by decide, _, rfl, _, rfl, iteF q⟩
    · rw [e2]
      rw [e1] at q
      exact iteF q
theorem scLif : FnScope ["thing", "sign", "one"] ["thing"] (defScope sLif) := ⟨rfl, rfl, rfl, by decide +kernel, rfl, by decide +kernel, by decide +kernel⟩
theorem ok_lif {f : Addr} {fd : FuncData} {k : Nat} (F : Fun K "_law_is_fact" "_law_is_fact" sLif f fd) (T : Tx mg) (cB : Cal P w K mg base (k + 1) "_law_is_number" ["thing", "many"] spNum) : FnOk P w K mg base CX0 (k + 2) f fd ["thing"] spFact := by
  refine F.ok scLif (fun vs H Q E h => ?_) (fun cdv A outer s H vs Q E hr h => ?_)
  · obtain ⟨b, v, rfl, _⟩ := h
    rfl
  · obtain ⟨b, v, rfl, hv, q⟩ := h
    obtain ⟨t, ht⟩ := hv.th
    refine ⟨_, (pss_cons (ps_if (pt_or (pt_not (pt_val (pe_callB call_isTh (by rfl) T.isi (by decide +kernel) (pa_cons (pv 0) (pa_cons (pe_bltn (v := .ty "tuple") (u := .type "tuple") (by rfl) T.tuple_ (by decide +kernel) rfl) pa_nil))))) (pw_or (pt_not (pt_chain op_le op_le pe_int (pe_callB call_len_seq (by rfl) T.len_ PySem.boot_len (pa_cons (pv 0) pa_nil)) pe_int)) (pw_or1 (pt_not (pt_val (pe_callB call_isTh (by rfl) T.isi (by decide +kernel) (pa_cons (pe_ix ix_tup (pv 0) pe_int (fun _ _ => rfl)) (pa_cons (pe_bltn (v := .ty "str") (u := .type "str") (by rfl) T.str_ (by decide +kernel) rfl) pa_nil)))))))) (pss_one (ps_ret pe_bl)) pss_nil) (pss_cons (ps_if (pt_or (pt_not (pt_chain op_le op_le pe_int (pe_callB call_len_str (by rfl) T.len_ PySem.boot_len (pa_cons (pe_ix ix_tup (pv 0) pe_int (fun _ _ => rfl)) pa_nil)) pe_int)) (pw_or1 (pt_not (pt_val (pe_callB (cr_all rfl) (by rfl) T.all_ (by decide +kernel) (pa_cons (pe_lc (own := [("sign", 1)]) (g := gName 1) (te := tOp rInS (tVar 1) (tC (.str "abcdefghijklmnopqrstuvwxyz"))) rfl scLif.nd (pi_str (pe_ix ix_tup (pv 0) pe_int (fun _ _ => rfl))) (blkOk_by (N := ["thing", "sign", "one"]) (sc := defScope sLif) (by decide +kernel)) (fun _ _ _ _ _ => pg_name (i := 1) scLif.nd rfl (Or.inl rfl)) (fun _ _ _ _ _ => pts_nil) (fun _ _ _ _ _ => (pe_cmpR op_inS (pv 1) pe_str rfl))) pa_nil)))))) (pss_one (ps_ret pe_bl)) pss_nil) (pss_one (ps_ret (pe_callB (cr_all rfl) (by rfl) T.all_ (by decide +kernel) (pa_cons (pe_lc (own := [("one", 2)]) (g := gName 2) rfl scLif.nd (pi_tup (pe_slice sl_tup (pv 0) (po_some pe_int) po_none)) (blkOk_by (N := ["thing", "sign", "one"]) (sc := defScope sLif) (by decide +kernel)) (fun _ _ _ _ _ => pg_name (i := 2) scLif.nd rfl (Or.inl rfl)) (fun _ _ _ _ _ => pts_nil) (fun _ _ _ _ _ => (pe_c cB hr (by omega) (by rfl) (pa_cons (pv 2) (pa_cons (pe_op op_pow pe_int pe_int) pa_nil))))) pa_nil)))))), ?_⟩
    refine ⟨_, rfl, _, "tuple", t, rfl, ht, by decide, _, rfl, ?_⟩
    rcases tup_cases ht with ⟨a, ys, rfl, ha, et, rfl⟩ | ⟨e1, e2⟩
    · obtain ⟨hl, hs⟩ := hv.sub ha
      refine iteF ⟨_, rfl, _, _, rfl, .inr (.of ha), _, _, rfl, rfl, _, rfl, ?_⟩
      cases ys with
      | nil =>
        rw [factB_nil et] at q
        rw [decide_eq_false (by simp)]
        exact iteF ⟨_, rfl, iteT (q _ (Same.refl _))⟩
      | cons x xs =>
        rw [decide_eq_true (by simp only [List.length_cons]; omega)]
        refine iteT ⟨_, _, rfl, rfl, _, rfl, ?_⟩
        rw [factB_at et] at q
        by_cases h4 : xs.length ≤ 4
        · rw [decide_eq_true (by simp only [List.length_cons]; omega)]
          rw [decide_eq_true h4, Bool.true_and] at q
          refine iteF ?_
          have hx := hs x (by simp)
          obtain ⟨tx, htx⟩ := hx.th
          refine ⟨_, rfl, a, _, _, x, rfl, rfl, .of ha, atI_nat (j := 0) rfl, _, "str", tx, rfl, htx, by decide, _, rfl, ?_⟩
          rcases str_cases htx with ⟨z, rfl, rfl⟩ | ⟨e1, e2⟩
          · have ls : z.length ≤ sizeLine := Nat.le_trans hx.len (by decide)
            refine iteF ?_
            refine ⟨_, rfl, a, _, _, .str z, rfl, rfl, .of ha, atI_nat (j := 0) rfl, z, rfl, ls, _, _, rfl, rfl, _, rfl, ?_⟩
            by_cases h1 : 1 ≤ z.length
            · rw [decide_eq_true (by omega)]
              refine iteT ⟨_, _, rfl, rfl, _, rfl, ?_⟩
              by_cases h2 : z.length ≤ 12
              · rw [decide_eq_true (by omega)]
                refine iteF ?_
                refine ⟨_, rfl, a, _, _, .str z, rfl, rfl, .of ha, atI_nat (j := 0) rfl, _, rfl, fun D hD => ?_⟩
                refine lcP walk_str (fun i => V.bl (signB (z.cps.toList.getD i 0))) (Nat.lt_of_le_of_lt (show z.cps.size ≤ 12 from h2) (by decide)) hD (fun _ _ => trivial) ?_ ?_
                · rintro i y H1 H2 Q' hi sm ⟨rfl, c, hc, rfl⟩ hq
                  have hcm : z.cps.toList.getD i 0 = c := by
                    rw [← Array.getElem?_toList] at hc
                    rw [List.getD_eq_getElem?_getD, hc]
                    rfl
                  rw [hcm, ← in_letters] at hq
                  exact ⟨rfl, _, rfl, c, _, rfl, rfl, hq _ (Same.refl _)⟩
                · intro H1 s1 hd
                  refine ⟨D, (List.range z.cps.size).map fun i => signB (z.cps.toList.getD i 0), rfl, .inl (.inl (by rw [hd, List.map_map]; rfl)), ?_⟩
                  have e := range_all signB 0 z.cps.toList
                  rw [Array.length_toList] at e
                  rw [e]
                  have e4 : wordV (.str z) = z.cps.toList.all signB := by
                    show wordB z = _
                    unfold wordB
                    rw [decide_eq_true h1, decide_eq_true h2]
                    rfl
                  rw [e4] at q
                  cases hw : z.cps.toList.all signB with
                  | false =>
                    rw [hw] at q
                    exact ⟨_, rfl, iteT (q _ s1)⟩
                  | true =>
                    rw [hw, Bool.true_and] at q
                    refine ⟨_, rfl, iteF ?_⟩
                    refine ⟨_, rfl, _, rfl, a, _, rfl, .of (s1 _ _ ha), ?_, fun p np => ?_⟩
                    · intro hh
                      have := hh.1
                      rw [sIx1, List.length_cons] at this
                      omega
                    · rw [cutTail]
                      have s2 : Same H1 (upd H1 p (.tup xs)) := same_upd np
                      refine ⟨p, rfl, ⟨_, .of upd_same⟩, fun D hD => ?_⟩
                      refine lcP walk_tup (fun i => V.bl (belowV 1000000000000 (xs.getD i .non))) (Nat.lt_of_le_of_lt h4 (by decide)) hD (fun _ sm => seqT sm (.of upd_same)) ?_ ?_
                      · rintro i y H3 H4 Q' hi' sm ⟨rfl, hy⟩ hq
                        have ey : xs.getD i .non = y := by rw [List.getD_eq_getElem?_getD, hy]; rfl
                        rw [ey] at hq
                        have hy2 : y ∈ V.str z :: xs := List.mem_cons_of_mem _ (List.mem_of_getElem? hy)
                        exact ⟨rfl, _, rfl, _, _, rfl, rfl, ⟨by decide, by decide, by decide⟩, b, _, y, rfl, (hs y hy2).same (s1.trans (s2.trans sm)), hq _ (Same.refl _)⟩
                      · intro H' sm hd
                        refine ⟨D, (List.range xs.length).map fun i => belowV 1000000000000 (xs.getD i .non), rfl, .inl (.inl (by rw [hd, List.map_map]; rfl)), ?_⟩
                        rw [range_all (belowV 1000000000000) V.non xs]
                        exact q _ (s1.trans (s2.trans sm))
              · rw [decide_eq_false (by omega)]
                have e4 : wordV (.str z) = false := by
                  show wordB z = _
                  unfold wordB
                  rw [decide_eq_false h2]
                  simp
                rw [e4, Bool.false_and] at q
                exact iteT (q _ (Same.refl _))
            · rw [decide_eq_false (by omega)]
              have e4 : wordV (.str z) = false := by
                show wordB z = _
                unfold wordB
                rw [decide_eq_false h1]
                rfl
              rw [e4, Bool.false_and] at q
              exact iteF ⟨_, rfl, iteT (q _ (Same.refl _))⟩
          · rw [e2]
            rw [e1, Bool.false_and] at q
            exact iteT (q _ (Same.refl _))
        · rw [decide_eq_false (by simp only [List.length_cons]; omega)]
          rw [decide_eq_false h4, Bool.false_and] at q
          exact iteT (q _ (Same.refl _))
    · rw [e2]
      rw [factB_no e1] at q
      exact iteT (q _ (Same.refl _))
end
end L2.My
end
section
set_option Elab.async false
set_option linter.all false
set_option maxRecDepth 100000
set_option maxHeartbeats 4000000
namespace L2.My
open PySem PySem.Spec PyProof.Rows
section
variable {P : Program} {w : World} {K : PySem.W.Frag} {mg : Str → Option Value} {base : Heap}
theorem scFault : FnScope nFa ["clauses", "grounds"] (defScope sFault) := ⟨rfl, rfl, rfl, by decide +kernel, rfl, by decide +kernel, by decide +kernel⟩
theorem ok_fault {f : Addr} {fd : FuncData} {k : Nat} (F : Fun K "_law_rule_fault" "_law_rule_fault" sFault f fd) (T : Tx mg) (cF : Cal P w K mg base (k + 2) "_law_is_fact" ["thing"] spFact) : FnOk P w K mg base CX0 (k + 3) f fd ["clauses", "grounds"] spFault := by
  refine F.ok scFault (fun vs H Q E h => ?_) (fun cdv A outer s H vs Q E hr h => ?_)
  · obtain ⟨b, c, g, rfl, _⟩ := h
    rfl
  · obtain ⟨b, cl, gr, rfl, hc, hg, q, qe⟩ := h
    refine ⟨_, (pss_cons (ps_if (pt_not (pt_val (pe_callB call_isTh (by rfl) T.isi (by decide +kernel) (pa_cons (pv 0) (pa_cons (pe_bltn (v := .ty "tuple") (u := .type "tuple") (by rfl) T.tuple_ (by decide +kernel) rfl) pa_nil))))) (pss_one (ps_ret pe_str)) pss_nil) (pss_cons (ps_if (pt_or (pt_not (pt_val (pe_callB call_isTh (by rfl) T.isi (by decide +kernel) (pa_cons (pv 1) (pa_cons (pe_bltn (v := .ty "tuple") (u := .type "tuple") (by rfl) T.tuple_ (by decide +kernel) rfl) pa_nil))))) (pw_or1 (pt_cmpR op_gt (pe_callB call_len_seq (by rfl) T.len_ PySem.boot_len (pa_cons (pv 1) pa_nil)) pe_int (nomark _)))) (pss_one (ps_ret pe_str)) pss_nil) (pss_cons (ps_for PassesOwn.never rfl (pi_enT (by rfl) T.enum_ (pa_cons (pv 0) pa_nil)) (pg_tup rfl (pgs_cons (pg_name (i := 2) scFault.nd rfl (Or.inl rfl)) (pgs_cons (pg_name (i := 3) scFault.nd rfl (Or.inl rfl)) pgs_nil))) (pss_cons (ps_if (pt_or (pt_not (pt_val (pe_callB call_isTh (by rfl) T.isi (by decide +kernel) (pa_cons (pv 3) (pa_cons (pe_bltn (v := .ty "tuple") (u := .type "tuple") (by rfl) T.tuple_ (by decide +kernel) rfl) pa_nil))))) (pw_or (pt_cmpR op_ne (pe_callB call_len_seq (by rfl) T.len_ PySem.boot_len (pa_cons (pv 3) pa_nil)) pe_int (nomark _)) (pw_or (pt_not (pt_val (pe_callB call_isTh (by rfl) T.isi (by decide +kernel) (pa_cons (pe_ix ix_tup (pv 3) pe_int (fun _ _ => rfl)) (pa_cons (pe_bltn (v := .ty "tuple") (u := .type "tuple") (by rfl) T.tuple_ (by decide +kernel) rfl) pa_nil))))) (pw_or1 (pt_cmpR op_gt (pe_callB call_len_seq (by rfl) T.len_ PySem.boot_len (pa_cons (pe_ix ix_tup (pv 3) pe_int (fun _ _ => rfl)) pa_nil)) pe_int (nomark _)))))) (pss_one (ps_ret (pv 2))) pss_nil) (pss_one (ps_if (pt_or (pt_not (pt_val (pe_callB (cr_all rfl) (by rfl) T.all_ (by decide +kernel) (pa_cons (pe_lc (own := [("one", 5)]) (g := gName 5) (te := tCall spFact [] E0 (tCons (tVar 5) tNil)) rfl scFault.nd (pi_tup (pe_ix ix_tup (pv 3) pe_int (fun _ _ => rfl))) (blkOk_by (N := nFa) (sc := defScope sFault) (by decide +kernel)) (fun _ _ _ _ _ => pg_name (i := 5) scFault.nd rfl (Or.inl rfl)) (fun _ _ _ _ _ => pts_nil) (fun _ _ _ _ _ => (pe_c cF hr (by omega) (by rfl) (pa_cons (pv 5) pa_nil)))) pa_nil)))) (pw_or1 (pt_not (pt_val (pe_c cF hr (by omega) (by rfl) (pa_cons (pe_ix ix_tup (pv 3) pe_int (fun _ _ => rfl)) pa_nil)))))) (pss_one (ps_ret (pv 2))) pss_nil)))) (pss_cons (ps_for PassesOwn.never rfl (pi_enT (by rfl) T.enum_ (pa_cons (pv 1) pa_nil)) (pg_tup rfl (pgs_cons (pg_name (i := 2) scFault.nd rfl (Or.inl rfl)) (pgs_cons (pg_name (i := 4) scFault.nd rfl (Or.inl rfl)) pgs_nil))) (pss_one (ps_if (pt_or (pt_not (pt_val (pe_callB call_isTh (by rfl) T.isi (by decide +kernel) (pa_cons (pv 4) (pa_cons (pe_bltn (v := .ty "tuple") (u := .type "tuple") (by rfl) T.tuple_ (by decide +kernel) rfl) pa_nil))))) (pw_or1 (pt_not (pt_val (pe_callB (cr_all rfl) (by rfl) T.all_ (by decide +kernel) (pa_cons (pe_lc (own := [("one", 5)]) (g := gName 5) (te := tCall spFact [] E0 (tCons (tVar 5) tNil)) rfl scFault.nd (pi_tup (pv 4)) (blkOk_by (N := nFa) (sc := defScope sFault) (by decide +kernel)) (fun _ _ _ _ _ => pg_name (i := 5) scFault.nd rfl (Or.inl rfl)) (fun _ _ _ _ _ => pts_nil) (fun _ _ _ _ _ => (pe_c cF hr (by omega) (by rfl) (pa_cons (pv 5) pa_nil)))) pa_nil)))))) (pss_one (ps_ret (pe_tup (pa_cons pe_str (pa_cons (pv 2) pa_nil))))) pss_nil))) (pss_one (ps_ret pe_non)))))), ?_⟩
    obtain ⟨tc, htc⟩ := hc.th
    refine ⟨_, rfl, _, "tuple", tc, rfl, htc, by decide, _, rfl, ?_⟩
    rcases tup_cases htc with ⟨ca, cs, rfl, hca, ec, rfl⟩ | ⟨e1, e2⟩
    rotate_left
    · rw [e2]
      exact iteT (qe _ (fault_cl e1) _ _ (Same.refl _) rfl)
    obtain ⟨hcl, hcs⟩ := hc.sub hca
    refine iteF ?_
    obtain ⟨tg, htg⟩ := hg.th
    refine ⟨_, rfl, _, "tuple", tg, rfl, htg, by decide, _, rfl, ?_⟩
    rcases tup_cases htg with ⟨ga, gs, rfl, hga, eg, rfl⟩ | ⟨e1, e2⟩
    rotate_left
    · rw [e2]
      exact iteT (qe _ (fault_gr ec e1) _ _ (Same.refl _) rfl)
    obtain ⟨hgl, hgs⟩ := hg.sub hga
    refine iteF ⟨_, rfl, ga, _, rfl, .inr (.of hga), _, _, rfl, rfl, _, rfl, ?_⟩
    by_cases h60 : gs.length ≤ 60
    rotate_left
    · rw [decide_eq_true (show (60 : Int) < (gs.length : Int) by omega)]
      exact iteT (qe _ (fault_gl ec eg (by omega)) _ _ (Same.refl _) rfl)
    rw [decide_eq_false (show ¬ (60 : Int) < (gs.length : Int) by omega)]
    refine iteF ?_
    refine ⟨_, rfl, ca, _, rfl, .of hca, ?_⟩
    refine for_it (walk_enT (xs := cs)) (fun i σ G => ∃ y z, σ = [some (.ref ca), some (.ref ga), y, z, none, none] ∧ Same H G ∧ ∀ j u, j < i → cs[j]? = some u → clauseB H u = true) ⟨_, _, rfl, Same.refl H, fun j u hj => absurd hj (Nat.not_lt_zero _)⟩ (fun i σ G _ h => ?_) ?_ ?_
    · obtain ⟨y, z, rfl, sm, _⟩ := h
      exact .of (sm _ _ hca)
    · rintro i v σ G G' hi ⟨y, z, rfl, sm, hj⟩ ⟨p, u1, u2, rfl, np, rfl, e1, e2⟩
      cases Option.some.inj e1
      have e2' : cs[i]? = some u2 := e2
      have hu2 := hcs u2 (List.mem_of_getElem? e2')
      have s1 : Same G (upd G p (.tup [.int (i : Nat), u2])) := same_upd np
      have bad : clauseB H u2 = false → ∀ G2, Same H G2 → Q (.int (i : Nat)) G2 := fun hb G2 s2 => qe _ (fault_at ec eg (by omega) (badI_at e2' hb hj)) G2 _ s2 rfl
      have sA := sm.trans s1
      refine ⟨p, _, rfl, .of upd_same, rfl, _, _, rfl, _, _, rfl, rfl, ?_⟩
      generalize hG2 : upd G p (.tup [.int (i : Nat), u2]) = G2 at *
      obtain ⟨t2, ht2⟩ := hu2.th
      refine ⟨_, rfl, _, "tuple", t2, rfl, ht2.stay (hu2 0).2.1 (.same sA), by decide, _, rfl, ?_⟩
      rcases tup_cases ht2 with ⟨ua, xs, rfl, hua, eu, rfl⟩ | ⟨e1, e2⟩
      rotate_left
      · rw [e2]
        exact iteT ⟨_, rfl, bad (clauseB_no e1) _ sA⟩
      obtain ⟨hul, hus⟩ := hu2.sub hua
      have hua2 := sA _ _ hua
      refine iteF ⟨_, rfl, ua, _, rfl, .inr (.of hua2), rfl, _, rfl, ?_⟩
      by_cases h2 : xs.length = 2
      rotate_left
      · rw [decide_eq_false (fun z => h2 (by have := V.int.inj z; omega))]
        exact iteT ⟨_, rfl, bad (clauseB_len eu h2) _ sA⟩
      match xs, h2, hus, hua, hua2, eu with
      | [x, y'], _, hus, hua, hua2, eu =>
        rw [decide_eq_true (by rfl)]
        refine iteF ?_
        have hx := hus x (by simp)
        have hy := hus y' (by simp)
        obtain ⟨tx, htx⟩ := hx.th
        have ecl := clauseB_at eu
        refine ⟨_, rfl, ua, _, _, x, rfl, rfl, .of hua2, atI_nat (j := 0) rfl, _, "tuple", tx, rfl, htx.stay (hx 0).2.1 (.same sA), by decide, _, rfl, ?_⟩
        rcases tup_cases htx with ⟨xa, fs, rfl, hxa, ex, rfl⟩ | ⟨e1, e2⟩
        rotate_left
        · rw [e2]
          exact iteT ⟨_, rfl, bad (by rw [ecl, factsB_no e1]; rfl) _ sA⟩
        obtain ⟨hxl, hxs⟩ := hx.sub hxa
        have hxa2 := sA _ _ hxa
        refine iteF ⟨_, rfl, ua, _, _, .ref xa, rfl, rfl, .of hua2, atI_nat (j := 0) rfl, xa, _, rfl, .inr (.of hxa2), _, _, rfl, rfl, _, rfl, ?_⟩
        rw [factsB_at ex] at ecl
        by_cases h4 : fs.length ≤ 4
        rotate_left
        · rw [decide_eq_true (show (4 : Int) < (fs.length : Int) by omega)]
          exact iteT ⟨_, rfl, bad (by rw [ecl, decide_eq_false h4]; rfl) _ sA⟩
        rw [decide_eq_false (show ¬ (4 : Int) < (fs.length : Int) by omega)]
        rw [decide_eq_true h4, Bool.true_and] at ecl
        refine iteF ?_
        refine ⟨_, rfl, ua, _, _, .ref xa, rfl, rfl, .of hua2, atI_nat (j := 0) rfl, xa, rfl, ⟨_, .of hxa2⟩, fun D hD => ?_⟩
        refine lcP walk_tup (fun i => V.bl (factB H (fs.getD i .non))) (Nat.lt_of_le_of_lt hxl (by decide)) hD (fun _ sm => seqT sm (.of hxa2)) ?_ ?_
        · rintro i y H3 H4 Q' hi' sm3 ⟨rfl, hy⟩ hq
          have ey : fs.getD i .non = y := by rw [List.getD_eq_getElem?_getD, hy]; rfl
          rw [ey] at hq
          have hy2 := hxs y (List.mem_of_getElem? hy)
          rw [← factB_bl hy2 (.same (sA.trans sm3))] at hq
          exact ⟨rfl, _, rfl, b, y, rfl, hy2.same (sA.trans sm3), fun H5 s5 => hq _ s5⟩
        · intro H3 s3 hd
          have sB := sA.trans s3
          refine ⟨D, (List.range fs.length).map fun i => factB H (fs.getD i .non), rfl, .inl (.inl (by rw [hd, List.map_map]; rfl)), ?_⟩
          rw [range_all (factB H) V.non fs]
          cases ha : fs.all (factB H) with
          | false =>
            exact ⟨_, rfl, iteT ⟨_, rfl, bad (by rw [ecl, ha]; rfl) _ sB⟩⟩
          | true =>
            rw [ha, Bool.true_and] at ecl
            refine ⟨_, rfl, iteF ⟨_, rfl, ua, _, _, y', rfl, rfl, .of (s3 _ _ hua2), atI_nat (j := 1) rfl, b, y', rfl, hy.same sB, fun H4 s4 => ⟨_, rfl, ?_⟩⟩⟩
            rw [factB_bl hy (.same sB)]
            have sC := sB.trans s4
            cases hb : factB H y' with
            | false => exact iteT ⟨_, rfl, bad (by rw [ecl, hb]) _ sC⟩
            | true =>
              refine iteF ⟨_, _, rfl, sC, fun j u hlt hu => ?_⟩
              rcases Nat.lt_succ_iff_lt_or_eq.mp hlt with z | z
              · exact hj j u z hu
              · rw [z, e2'] at hu; cases hu; rw [ecl, hb]
    · rintro σ G ⟨y, z, rfl, sm, hj⟩
      have nc : badI (clauseB H) cs = none := badI_none.mpr fun u hu => by
        obtain ⟨j, hjl, e⟩ := List.getElem_of_mem hu
        exact hj j u hjl (by rw [List.getElem?_eq_getElem hjl, e])
      refine ⟨_, rfl, ga, _, rfl, .of (sm _ _ hga), ?_⟩
      refine for_it (walk_enT (xs := gs)) (fun i σ G => ∃ y z z2, σ = [some (.ref ca), some (.ref ga), y, z, z2, none] ∧ Same H G ∧ ∀ j u, j < i → gs[j]? = some u → factsB H 5000 u = true) ⟨_, _, _, rfl, sm, fun j u hj => absurd hj (Nat.not_lt_zero _)⟩ (fun i σ G _ h => ?_) ?_ ?_
      · obtain ⟨y, z, z2, rfl, sm, _⟩ := h
        exact .of (sm _ _ hga)
      · rintro i v σ G G' hi ⟨y, z, z2, rfl, sm, hj⟩ ⟨p, u1, u2, rfl, np, rfl, e1, e2⟩
        cases Option.some.inj e1
        have e2' : gs[i]? = some u2 := e2
        have hu2 := hgs u2 (List.mem_of_getElem? e2')
        have s1 : Same G (upd G p (.tup [.int (i : Nat), u2])) := same_upd np
        have bad : factsB H 5000 u2 = false → ∀ G2, Same H G2 → ∀ t, G2 t = none → Q (.ref t) (upd G2 t (.tup [.str "ground", .int (i : Nat)])) := fun hb G2 s2 t nt =>
          qe (.gn i) (by rw [fault_gn ec eg (by omega) nc, badI_at e2' hb hj]; rfl) _ _ (s2.trans (same_upd nt)) ⟨t, rfl, upd_same⟩
        have sA := sm.trans s1
        refine ⟨p, _, rfl, .of upd_same, rfl, _, _, rfl, _, _, rfl, rfl, ?_⟩
        generalize hG2 : upd G p (.tup [.int (i : Nat), u2]) = G2 at *
        obtain ⟨t2, ht2⟩ := hu2.th
        refine ⟨_, rfl, _, "tuple", t2, rfl, ht2.stay (hu2 0).2.1 (.same sA), by decide, _, rfl, ?_⟩
        rcases tup_cases ht2 with ⟨ua, xs, rfl, hua, eu, rfl⟩ | ⟨e1, e2⟩
        rotate_left
        · rw [e2]
          exact iteT ⟨_, rfl, by show 2 ≤ sizeLine; decide, fun t nt => bad (factsB_no e1) _ sA t nt⟩
        obtain ⟨hul, hus⟩ := hu2.sub hua
        have hua2 := sA _ _ hua
        have ecl := factsB_at (n := 5000) eu
        rw [decide_eq_true hul, Bool.true_and] at ecl
        refine iteF ⟨_, rfl, ua, rfl, ⟨_, .of hua2⟩, fun D hD => ?_⟩
        refine lcP walk_tup (fun i => V.bl (factB H (xs.getD i .non))) (Nat.lt_of_le_of_lt hul (by decide)) hD (fun _ sm => seqT sm (.of hua2)) ?_ ?_
        · rintro i y H3 H4 Q' hi' sm3 ⟨rfl, hy⟩ hq
          have ey : xs.getD i .non = y := by rw [List.getD_eq_getElem?_getD, hy]; rfl
          rw [ey] at hq
          have hy2 := hus y (List.mem_of_getElem? hy)
          rw [← factB_bl hy2 (.same (sA.trans sm3))] at hq
          exact ⟨rfl, _, rfl, b, y, rfl, hy2.same (sA.trans sm3), fun H5 s5 => hq _ s5⟩
        · intro H3 s3 hd
          have sB := sA.trans s3
          refine ⟨D, (List.range xs.length).map fun i => factB H (xs.getD i .non), rfl, .inl (.inl (by rw [hd, List.map_map]; rfl)), ?_⟩
          rw [range_all (factB H) V.non xs]
          cases ha : xs.all (factB H) with
          | false => exact ⟨_, rfl, iteT ⟨_, rfl, by show 2 ≤ sizeLine; decide, fun t nt => bad (by rw [ecl, ha]) _ sB t nt⟩⟩
          | true =>
            refine ⟨_, rfl, iteF ⟨_, _, _, rfl, sB, fun j u hlt hu => ?_⟩⟩
            rcases Nat.lt_succ_iff_lt_or_eq.mp hlt with z | z
            · exact hj j u z hu
            · rw [z, e2'] at hu; cases hu; rw [ecl, ha]
      · rintro σ G ⟨y, z, z2, rfl, sm, hj⟩
        have ng : badI (factsB H 5000) gs = none := badI_none.mpr fun u hu => by
          obtain ⟨j, hjl, e⟩ := List.getElem_of_mem hu
          exact hj j u hjl (by rw [List.getElem?_eq_getElem hjl, e])
        exact q (by rw [fault_gn ec eg (by omega) nc, ng]; rfl) _ sm
end
end L2.My
end
section
set_option Elab.async false
set_option linter.all false
set_option maxRecDepth 100000
set_option maxHeartbeats 4000000
namespace L2.My
open PySem PySem.Spec PyProof.Rows
theorem u2 {k : Nat} {A : Around} (h : Room k A) : A.units + 2 < cLine := by have := h.un; omega
/-! ### dicts of facts -/
theorem valV_iff {kvs : List (Fc × V)} {k : Fc} : valV kvs k = none ↔ k ∉ kvs.map (·.1) := by
  unfold valV
  rw [Option.map_eq_none_iff, List.find?_eq_none]
  constructor
  · intro h hm
    obtain ⟨x, hx, rfl⟩ := List.mem_map.mp hm
    exact h x hx (decide_eq_true rfl)
  · intro h x hx hk
    exact h (List.mem_map.mpr ⟨x, hx, of_decide_eq_true hk⟩)
theorem keys_putK {kvs : List (Fc × V)} {k : Fc} {v : V} : (putK kvs k v).map (·.1) = if k ∈ kvs.map (·.1) then kvs.map (·.1) else kvs.map (·.1) ++ [k] := by
  by_cases h : k ∈ kvs.map (·.1)
  · rw [if_pos h]
    have a : (kvs.any fun kv => decide (kv.1 = k)) = true := by
      obtain ⟨x, hx, e⟩ := List.mem_map.mp h
      exact List.any_eq_true.mpr ⟨x, hx, decide_eq_true e⟩
    unfold putK
    rw [if_pos a, List.map_map]
    refine List.map_congr_left fun x hx => ?_
    show (if x.1 = k then (x.1, v) else x).1 = x.1
    split <;> rfl
  · rw [if_neg h, putK_new v (valV_iff.mpr h), List.map_append]
    rfl
theorem dk_snoc (l : List Fc) (f : Fc) : dk (l ++ [f]) = if f ∈ dk l then dk l else dk l ++ [f] := by
  unfold dk
  rw [List.foldl_append]
  rfl
theorem dk_len (l : List Fc) : (dk l).length ≤ l.length := by
  have : ∀ (b a : List Fc), (b.foldl (fun a f => if f ∈ a then a else a ++ [f]) a).length ≤ a.length + b.length := by
    intro b
    induction b with
    | nil => intro a; simp
    | cons f r ih =>
      intro a
      rw [List.foldl_cons]
      refine Nat.le_trans (ih _) ?_
      split
      · simp only [List.length_cons]; omega
      · simp only [List.length_append, List.length_cons, List.length_nil]; omega
  exact Nat.le_trans (this l []) (by simp)
section
variable {J : It} {n : Nat} {G : Hp → Prop} {Y : Nat → Hp → V → Hp → Prop}
theorem dc_it (w : Walk J n G Y) {g : TG} {tt : TT} {tk tv : TE} {vs : List Nat} {σ : St} {H1 : Hp} {D : Addr} {Qd : Hp → Prop} (Pv : Nat → Hp → Prop) (h0 : Pv 0 (upd H1 D (.dT []))) (hG : ∀ i H, i ≤ n → Pv i H → G H)
    (hs : ∀ i x H H', i < n → Pv i H → Y i H x H' → g x (wipe σ vs) H' fun σ2 H2 => wipe σ2 vs = wipe σ vs ∧ tt σ2 H2 fun b H3 =>
      if b = true then tk σ2 H3 fun y H4 => tv σ2 H4 fun z H5 => ∃ kvs k b, y = .ref b ∧ H5 D = some (.dT kvs) ∧ H5 b = some (.tup (k.map kV)) ∧ kvs.length < sizeLine ∧ Pv (i + 1) (upd H5 D (.dT (putK kvs k z))) else Pv (i + 1) H3)
    (hd : ∀ H, Pv n H → Qd H) : ∃ W : Nat → Nat → Hp → Prop, (∃ m, W 0 m (upd H1 D (.dT []))) ∧ ∀ i m H, W i m H →
      (J.stop i H ∧ Qd H) ∨ (J.go i H ∧ ∃ Nx : Hp → Prop, (∀ H', Nx H' → ∃ m', m' < m ∧ W (i + 1) m' H') ∧ ∀ x H', J.yld i H x H' → g x (wipe σ vs) H' fun σ2 H2 => wipe σ2 vs = wipe σ vs ∧ tt σ2 H2 fun b H3 =>
        if b = true then tk σ2 H3 fun y H4 => tv σ2 H4 fun z H5 => ∃ kvs k b, y = .ref b ∧ H5 D = some (.dT kvs) ∧ H5 b = some (.tup (k.map kV)) ∧ kvs.length < sizeLine ∧ Nx (upd H5 D (.dT (putK kvs k z))) else Nx H3) := by
  refine ⟨fun i m H => i + m = n ∧ Pv i H, ⟨n, by omega, h0⟩, fun i m H ⟨e, h⟩ => ?_⟩
  have gi := hG i H (by omega) h
  by_cases hi : i < n
  · exact .inr ⟨w.goes i H hi gi, fun H' => Pv (i + 1) H', fun H' h' => ⟨m - 1, by omega, by omega, h'⟩, fun x H' y => hs i x H H' hi h (w.yields i H x H' hi gi y)⟩
  · obtain rfl : i = n := by omega
    exact .inl ⟨w.stops H gi, hd H h⟩
end
end L2.My
end
section
set_option Elab.async false
set_option linter.all false
set_option maxRecDepth 100000
set_option maxHeartbeats 4000000
namespace L2.My
open PySem PySem.Spec PyProof.Rows
/-! ### a dict comprehension as an assignment -/
section
variable {X : Cx}
theorem ps_setDcT {i : Nat} {y : Str} {py : Pos} {kx vx tg iter : Expr} {ifs : List Expr} {scope : Scope} {own : List (Str × Nat)} {pos spos : Pos} {wi : TI} {g : TG} {tt : TT} {tk tv : TE} (hu : X.A.units + 2 < cLine) (hc : X.calm = true) (hN : X.N.Nodup) (hy : X.N[i]? = some y) (hyl : X.env.scope.names.lookup y = some .local)
    (hsw : swapsWith (.DictComp kx vx [⟨tg, iter, ifs, 0⟩] scope pos) (some (.Name y py)) spos.line X.env = pure true) (hi : PI X tg iter wi) (ok : BlkOk X.N X.env.scope scope own)
    (hg : ∀ (s : Shared) (H : Hp) (C : Addr) (cl : List (Str × Addr)) (fp : List Addr), PG (X.blk s H scope (compEnvC scope cl C X.env) fp) tg g) (ht : ∀ (s : Shared) (H : Hp) (C : Addr) (cl : List (Str × Addr)) (fp : List Addr), PTs (X.blk s H scope (compEnvC scope cl C X.env) fp) ifs tt)
    (hk : ∀ (s : Shared) (H : Hp) (C : Addr) (cl : List (Str × Addr)) (fp : List Addr), PE (X.blk s H scope (compEnvC scope cl C X.env) fp) kx tk)
    (he : ∀ (s : Shared) (H : Hp) (C : Addr) (cl : List (Str × Addr)) (fp : List Addr), PE (X.blk s H scope (compEnvC scope cl C X.env) fp) vx tv) (hs : ∀ x, foldedSetIterable iter X.env x = pure x := by intro _; rfl) :
    PS X (.Assign [.Name y py] (.DictComp kx vx [⟨tg, iter, ifs, 0⟩] scope pos) spos) (tAsg (tDcT wi g tt tk tv (own.map (·.2))) (gName i)) := by
  refine ⟨fun pins s σ H D I h => ?_⟩
  rw [exec_Assign_Name_used _ _ _ _ hsw]
  refine wpAny_bind (wpAny_standAt (wpAny_bind ?_))
  show wpAny _ X.A (do let _ ← comprehension (.DictComp kx vx [⟨tg, iter, ifs, 0⟩] scope pos) scope X.env (firstIterPos [⟨tg, iter, ifs, 0⟩] pos) newDict false (eval iter X.env) (some (assign (.Name y py) X.env))) _ _ s
  have h : tDcT wi g tt tk tv (own.map (·.2)) σ H (fun x H1 => gName i x σ H1 D.nx) := h
  refine wpAny_bind (thn (dc_coreT (Qf := fun _ s' => SP X pins D .next s') hu hc hN I hi ok hg ht hk he hs h fun L C s' m H' I' q hn f => ?_) fun _ s' hq => wpAny_pure (wpAny_pure hq))
  show wpAny _ _ (assign (.Name y py) X.env (.ref L)) _ _ _
  refine wpAny_assign_Name (store_ok2 (v := V.ref L) I' hN hy (.inl hyl) rfl (fun s2 I2 ⟨a, sb, ha⟩ => ?_) (.inr hyl))
  obtain ⟨f0, f1, f2, f3, f4, f5⟩ := f
  have haC : C ≠ a := by
    rcases ha with z | z
    · rw [z]; exact f1
    · exact fun e => f4 y a z e.symm
  refine ⟨m, hn.sameBut sb haC, fun h3 sb3 => ?_⟩
  exact ⟨_, H', I2.turned (t' := s2.toks) (fun b o hb e => (sb3.2 b hb).trans e) f0 f1 f3 f4 f5, q⟩
theorem sw_trueD {kx vx : Expr} {gs : List Comprehension} {scope : Scope} {pos py : Pos} {y : Str} {l : Nat} {env : Env} (hk : env.scope.kind = .function) (hy : env.scope.names.lookup y = some .local) (hl : (py.line == pos.line) = true)
    (ha : (scope.names.any fun (n, k) => n == y && (k == .local || k == .cell)) = false) : swapsWith (.DictComp kx vx gs scope pos) (some (.Name y py)) l env = pure true := by
  have ky : env.kindOf y = some .local := hy
  have hb : env.blockKind = .function := by unfold Env.blockKind; rw [hk]; rfl
  unfold swapsWith
  simp only [hb, ky, ha, Expr.pos, hl]
  rfl
end
/-! ### its reading -/
def dl (kf : Nat → Fc) (fv : Nat → V) (n : Nat) : List (Fc × V) := (List.range n).foldl (fun a i => putK a (kf i) (fv i)) []
theorem dl_succ {kf : Nat → Fc} {fv : Nat → V} {n : Nat} : dl kf fv (n + 1) = putK (dl kf fv n) (kf n) (fv n) := by
  unfold dl
  rw [List.range_succ, List.foldl_append]
  rfl
theorem dl_len {kf : Nat → Fc} {fv : Nat → V} : ∀ {n : Nat}, (dl kf fv n).length ≤ n
  | 0 => Nat.le_refl _
  | n + 1 => by rw [dl_succ]; exact Nat.le_trans (length_putK _ _ _) (Nat.succ_le_succ dl_len)
theorem dl_keys {kf : Nat → Fc} {fv : Nat → V} : ∀ {n : Nat}, (dl kf fv n).map (·.1) = dk ((List.range n).map kf)
  | 0 => rfl
  | n + 1 => by
    rw [dl_succ, keys_putK, dl_keys, List.range_succ, List.map_append, List.map_singleton, dk_snoc]
theorem dl_val {kf : Nat → Fc} {fv : Nat → V} {f : Fc} {v : V} : ∀ {n : Nat}, valV (dl kf fv n) f = some v → ∃ i, i < n ∧ kf i = f ∧ v = fv i
  | 0, h => nomatch h
  | n + 1, h => by
    rw [dl_succ, valV_put] at h
    by_cases e : f = kf n
    · rw [if_pos e] at h
      exact ⟨n, Nat.lt_succ_self _, e.symm, (Option.some.inj h).symm⟩
    · rw [if_neg e] at h
      obtain ⟨i, hi, r⟩ := dl_val h
      exact ⟨i, Nat.lt_succ_of_lt hi, r⟩
section
variable {J : It} {n : Nat} {G : Hp → Prop} {Y : Nat → Hp → V → Hp → Prop}
theorem dcP (w : Walk J n G Y) {g : TG} {tk tv : TE} {vs : List Nat} {σ : St} {H1 : Hp} {D : Addr} {Qd : Hp → Prop} (kf : Nat → Fc) (fv : Nat → V) (hn : n < sizeLine) (hD : H1 D = none) (hG : ∀ H', Same H1 H' → G H')
    (hs : ∀ i x H H' (Q' : V → V → Hp → Prop), i < n → Same H1 H → Y i H x H' → (∀ H5 b, Same H H5 → H5 b = some (.tup ((kf i).map kV)) → Q' (.ref b) (fv i) H5) → g x (wipe σ vs) H' fun σ2 H2 => wipe σ2 vs = wipe σ vs ∧ tk σ2 H2 fun y H4 => tv σ2 H4 fun z H5 => Q' y z H5)
    (hd : ∀ H, Same H1 H → H D = some (.dT (dl kf fv n)) → Qd H) : ∃ W : Nat → Nat → Hp → Prop, (∃ m, W 0 m (upd H1 D (.dT []))) ∧ ∀ i m H, W i m H →
      (J.stop i H ∧ Qd H) ∨ (J.go i H ∧ ∃ Nx : Hp → Prop, (∀ H', Nx H' → ∃ m', m' < m ∧ W (i + 1) m' H') ∧ ∀ x H', J.yld i H x H' → g x (wipe σ vs) H' fun σ2 H2 => wipe σ2 vs = wipe σ vs ∧ tYes σ2 H2 fun b H3 =>
        if b = true then tk σ2 H3 fun y H4 => tv σ2 H4 fun z H5 => ∃ kvs k b, y = .ref b ∧ H5 D = some (.dT kvs) ∧ H5 b = some (.tup (k.map kV)) ∧ kvs.length < sizeLine ∧ Nx (upd H5 D (.dT (putK kvs k z))) else Nx H3) := by
  refine dc_it w (fun i H => Same H1 H ∧ H D = some (.dT (dl kf fv i))) ⟨same_upd hD, upd_same⟩ (fun i H _ h => hG H h.1) (fun i x H H' hi ⟨sm, hd⟩ y => ?_) fun H h => hd H h.1 h.2
  refine hs i x H H' _ hi sm y fun H5 b s5 hb => ?_
  refine ⟨_, kf i, b, rfl, s5 _ _ hd, hb, Nat.lt_of_le_of_lt dl_len (Nat.lt_trans hi hn), fun p o e => ?_, ?_⟩
  · rw [upd_ne (fun z => by rw [z, hD] at e; cases e)]
    exact s5 _ _ (sm _ _ e)
  · rw [dl_succ]; exact upd_same
end
/-! ### where a fact is used -/
def bo (cs : List Cz) (a : Nat) : List Fc := ((cs[a]?).map (·.1)).getD []
def us (cs : List Cz) (i : Nat) (f : Fc) : List Nat := (List.range i).filter fun a => decide (f ∈ bo cs a)
def nI (l : List Nat) : List V := l.map fun (n : Nat) => V.int n
def UsesAt (H : Hp) (u : Addr) (g : Fc → List Nat) (Pl : Addr → Prop) (N : Nat) : Prop := ∃ kvs : List (Fc × V), H u = some (.dT kvs) ∧ kvs.length ≤ N ∧ (∀ f, valV kvs f = none → g f = []) ∧ (∀ f v, valV kvs f = some v → ∃ l, v = .ref l ∧ H l = some (.lst (nI (g f))) ∧ Pl l) ∧ ∀ f f' l, valV kvs f = some (.ref l) → valV kvs f' = some (.ref l) → f = f'
def adds (g : Fc → List Nat) (f : Fc) (n : Nat) : Fc → List Nat := fun x => if x = f then g x ++ [n] else g x
theorem adds_eq {g : Fc → List Nat} {f : Fc} {n : Nat} : adds g f n f = g f ++ [n] := if_pos rfl
theorem adds_ne {g : Fc → List Nat} {f x : Fc} {n : Nat} (h : x ≠ f) : adds g f n x = g x := if_neg h
theorem UsesAt.ext {H : Hp} {u : Addr} {g g' : Fc → List Nat} {Pl : Addr → Prop} {N N' : Nat} (h : UsesAt H u g Pl N) (e : ∀ f, g f = g' f) (hN : N ≤ N') : UsesAt H u g' Pl N' := by
  obtain ⟨kvs, h1, h2, h3, h4, h5⟩ := h
  exact ⟨kvs, h1, Nat.le_trans h2 hN, fun f hf => (e f) ▸ h3 f hf, fun f v hv => by rw [← e f]; exact h4 f v hv, h5⟩
theorem UsesAt.bl {H H' : Hp} {u : Addr} {g : Fc → List Nat} {Pl : Addr → Prop} {N : Nat} (h : UsesAt H u g Pl N) (L : List Addr) (b : BL L H H') (hu : u ∉ L) (hl : ∀ l, Pl l → l ∉ L) : UsesAt H' u g Pl N := by
  obtain ⟨kvs, h1, h2, h3, h4, h5⟩ := h
  exact ⟨kvs, b _ _ hu h1, h2, h3, fun f v hv => let ⟨l, a1, a2, a3⟩ := h4 f v hv; ⟨l, a1, b _ _ (hl l a3) a2, a3⟩, h5⟩
theorem UsesAt.old {H : Hp} {u l : Addr} {g : Fc → List Nat} {Pl : Addr → Prop} {N : Nat} {kvs : List (Fc × V)} {f : Fc} {n : Nat} (h : UsesAt H u g Pl N) (hk : H u = some (.dT kvs)) (hv : valV kvs f = some (.ref l)) : UsesAt (upd H l (.lst (nI (g f ++ [n])))) u (adds g f n) Pl N := by
  obtain ⟨kvs', h1, h2, h3, h4, h5⟩ := h
  rw [hk] at h1
  cases h1
  obtain ⟨l', e, hl, pl⟩ := h4 f _ hv
  cases e
  have ne : u ≠ l := fun z => by rw [z, hl] at hk; cases hk
  refine ⟨kvs, by rw [upd_ne ne]; exact hk, h2, fun x hx => ?_, fun x v hx => ?_, h5⟩
  · rw [adds_ne (fun z => by rw [z, hv] at hx; cases hx)]
    exact h3 x hx
  · obtain ⟨m, rfl, hm, pm⟩ := h4 x v hx
    by_cases e : x = f
    · subst e
      rw [hv] at hx
      cases hx
      exact ⟨l, rfl, by rw [upd_same, adds_eq], pl⟩
    · refine ⟨m, rfl, ?_, pm⟩
      rw [adds_ne e, upd_ne (fun z => e (h5 x f l (by rw [← z]; exact hx) hv))]
      exact hm
theorem UsesAt.new {H : Hp} {u l : Addr} {g : Fc → List Nat} {Pl : Addr → Prop} {N : Nat} {kvs : List (Fc × V)} {f : Fc} {n : Nat} (h : UsesAt H u g Pl N) (hk : H u = some (.dT kvs)) (hv : valV kvs f = none) (hl : H l = none) (pl : Pl l) :
    UsesAt (upd (upd (upd H l (.lst [])) u (.dT (putK kvs f (.ref l)))) l (.lst (nI [n]))) u (adds g f n) Pl (N + 1) := by
  obtain ⟨kvs', h1, h2, h3, h4, h5⟩ := h
  rw [hk] at h1
  cases h1
  have ne : u ≠ l := fun z => by rw [z, hl] at hk; cases hk
  have nl : ∀ x, valV kvs x ≠ some (.ref l) := fun x hx => by
    obtain ⟨m, e, hm, _⟩ := h4 x _ hx
    cases e
    rw [hl] at hm; cases hm
  refine ⟨putK kvs f (.ref l), by rw [upd_ne ne, upd_same], Nat.le_trans (length_putK _ _ _) (Nat.succ_le_succ h2), fun x hx => ?_, fun x v hx => ?_, fun x y m hx hy => ?_⟩
  · rw [valV_put] at hx
    by_cases e : x = f
    · rw [if_pos e] at hx; cases hx
    · rw [if_neg e] at hx; rw [adds_ne e]; exact h3 x hx
  · rw [valV_put] at hx
    by_cases e : x = f
    · rw [if_pos e] at hx
      cases hx
      exact ⟨l, rfl, by rw [upd_same, e, adds_eq, h3 f hv]; rfl, pl⟩
    · rw [if_neg e] at hx
      rw [adds_ne e]
      obtain ⟨m, rfl, hm, pm⟩ := h4 x v hx
      have n1 : m ≠ l := fun z => nl x (by rw [← z]; exact hx)
      have n2 : m ≠ u := fun z => by rw [z, hk] at hm; cases hm
      exact ⟨m, rfl, by rw [upd_ne n1, upd_ne n2, upd_ne n1]; exact hm, pm⟩
  · rw [valV_put] at hx hy
    by_cases e : x = f
    · by_cases e' : y = f
      · rw [e, e']
      · rw [if_pos e] at hx; rw [if_neg e'] at hy
        cases hx
        exact absurd hy (nl y)
    · by_cases e' : y = f
      · rw [if_neg e] at hx; rw [if_pos e'] at hy
        cases hy
        exact absurd hx (nl x)
      · rw [if_neg e] at hx; rw [if_neg e'] at hy
        exact h5 x y m hx hy
end L2.My
end
section
set_option Elab.async false
set_option linter.all false
set_option maxRecDepth 100000
set_option maxHeartbeats 4000000
namespace L2.My
open PySem PySem.Spec PyProof.Rows
/-! ### the law's hand -/
abbrev sHand : Stmt := top 21
abbrev sDraw : Stmt := top 22
abbrev sAny : Stmt := top 23
def HandAt (H : Hp) (b g : Addr) : Prop := ∃ (ns : List Int) (at' big s c : Int), H b = some (.lst [.ref g, .int at', .int big, .int s, .int c]) ∧ H g = some (.lst (ns.map V.int)) ∧ g ≠ b ∧ 0 ≤ at' ∧ ∀ x ∈ ns, 0 ≤ x
theorem HandAt.tk {H H' : Hp} {b g : Addr} (h : HandAt H b g) (s : BL [b] H H') : TK H H' := by
  obtain ⟨ns, at', big, sd, c, hb, _⟩ := h
  exact TK.bl s fun p hp xs e => by rw [List.mem_singleton.mp hp, hb] at e; cases e
theorem HandAt.same {H H' : Hp} {b g : Addr} (h : HandAt H b g) (s : Same H H') : HandAt H' b g := by
  obtain ⟨ns, at', big, sd, c, hb, hg, r⟩ := h
  exact ⟨ns, at', big, sd, c, s _ _ hb, s _ _ hg, r⟩
theorem HandAt.put {H : Hp} {b g D : Addr} {o : HO} (h : HandAt H b g) (hb : D ≠ b) (hg : D ≠ g) : HandAt (L2.upd H D o) b g := by
  obtain ⟨ns, at', big, sd, c, h1, h2, r⟩ := h
  exact ⟨ns, at', big, sd, c, by rw [upd_ne (Ne.symm hb)]; exact h1, by rw [upd_ne (Ne.symm hg)]; exact h2, r⟩
theorem HandAt.nb {H : Hp} {b g D : Addr} (h : HandAt H b g) (n : H D = none) : D ≠ b := fun e => by
  obtain ⟨_, _, _, _, _, h1, _⟩ := h
  rw [e, h1] at n; cases n
theorem HandAt.ng {H : Hp} {b g D : Addr} (h : HandAt H b g) (n : H D = none) : D ≠ g := fun e => by
  obtain ⟨_, _, _, _, _, _, h1, _⟩ := h
  rw [e, h1] at n; cases n
def spHand (K : PySem.W.Frag) : Sp := fun vs H Q _ => ∃ (a : Addr) (ns : List Int), vs = [.ref a] ∧ SqL K H a (ns.map V.int) ∧ ∀ H' b g, Same H H' → H b = none → H g = none → HandAt H' b g → Q (.ref b) H'
def spDraw : Sp := fun vs H Q _ => ∃ (b g : Addr) (m : Int), vs = [.ref b, .int m] ∧ HandAt H b g ∧ 0 < m ∧ m < 1073741824 ∧ ∀ H' r, BL [b] H H' → HandAt H' b g → 0 ≤ r → r < m → Q (.int r) H'
def spAny : Sp := fun vs H Q _ => ∃ (b g t : Addr) (xs : List V), vs = [.ref b, .ref t] ∧ HandAt H b g ∧ H t = some (.lst xs) ∧ t ≠ b ∧ xs ≠ [] ∧ xs.length < 1073741824 ∧ ∀ H' v, BL [b] H H' → HandAt H' b g → v ∈ xs → Q v H'
theorem seq_use {t u : TS} {D : Ends} {σ : St} {H : Hp} (Pm : St → Hp → Prop) (h2 : ∀ σ' H', Pm σ' H' → u D σ' H') (h1 : (∀ σ' H', Pm σ' H' → u D σ' H') → t { D with nx := u D } σ H) : tSeq t u D σ H := h1 h2
section
variable {P : Program} {w : World} {K : PySem.W.Frag} {mg : Str → Option Value} {base : Heap}
theorem scHand : FnScope ["script", "cell", "cells"] ["script"] (defScope sHand) := ⟨rfl, rfl, rfl, by decide +kernel, rfl, by decide +kernel, by decide +kernel⟩
theorem ok_hand {f : Addr} {fd : FuncData} {k : Nat} (F : Fun K "_law_hand" "_law_hand" sHand f fd) (T : Tx mg) : FnOk P w K mg base CX0 (k + 1) f fd ["script"] (spHand K) := by
  refine F.ok scHand (fun vs H Q E h => ?_) (fun cdv A outer s H vs Q E hr h => ?_)
  · obtain ⟨a, ns, rfl, _⟩ := h
    rfl
  · obtain ⟨a, ns, rfl, hS, q⟩ := h
    refine ⟨_, (pss_cons (ps_setLc (own := [("cell", 1)]) (i := 2) (g := gName 1) rfl scHand.nd rfl rfl (sw_true rfl rfl rfl (by decide +kernel)) (pi_list (pe_slice sl_list (pv 0) po_none (po_some pe_int))) (blkOk_by (N := ["script", "cell", "cells"]) (sc := defScope sHand) (by decide +kernel)) (fun _ _ _ _ _ => pg_name (i := 1) scHand.nd rfl (Or.inl rfl)) (fun _ _ _ _ _ => pts_nil) (fun _ _ _ _ _ => (pe_callB call_abs (by rfl) T.abs_ (by decide +kernel) (pa_cons (pe_callTy call_int1 (by rfl) T.int_ (by decide +kernel) (pa_cons (pv 1) pa_nil)) pa_nil)))) (pss_one (ps_ret (pe_lst (pa_cons (pv 2) (pa_cons pe_int (pa_cons pe_int (pa_cons (pe_op op_add pe_int (pe_callB call_len_seq (by rfl) T.len_ PySem.boot_len (pa_cons (pv 2) pa_nil))) (pa_cons pe_int pa_nil))))))))), ?_⟩
    refine ⟨.ref a, rfl, 63, rfl, a, ns.map V.int, rfl, hS, fun c nc => ?_⟩
    have ec : cutV (ns.map V.int) none (some 63) = (ns.take 63).map V.int := by
      rw [List.map_take]
      exact cutTo _ 63
    rw [ec]
    refine ⟨c, rfl, ⟨_, SqL.of upd_same⟩, fun D hD => ?_⟩
    have s1 : Same H (upd H c (.lst ((ns.take 63).map V.int))) := same_upd nc
    have hl : ((ns.take 63).map V.int).length ≤ 63 := by rw [List.length_map, List.length_take]; omega
    refine lcP (walk_list (xs := (ns.take 63).map V.int)) (fun i => V.int (if (ns.take 63).getD i 0 < 0 then -((ns.take 63).getD i 0) else (ns.take 63).getD i 0)) (Nat.lt_of_le_of_lt hl (by decide)) hD (fun _ sm => SqL.of (sm _ _ upd_same)) ?_ ?_
    · rintro i x H3 H4 Q' hi sm ⟨rfl, hx⟩ hq
      obtain ⟨n, hn, rfl⟩ : ∃ n, (ns.take 63)[i]? = some n ∧ x = V.int n := by
        rw [List.getElem?_map] at hx
        cases e : (ns.take 63)[i]? with
        | none => rw [e] at hx; cases hx
        | some u => rw [e] at hx; exact ⟨u, rfl, (Option.some.inj hx).symm⟩
      have e3 : (ns.take 63).getD i 0 = n := by rw [List.getD_eq_getElem?_getD, hn]; rfl
      rw [e3] at hq
      exact ⟨rfl, _, rfl, .inl ⟨n, rfl, n, rfl, hq _ (Same.refl _)⟩⟩
    · intro H3 sm hd
      generalize hfs : ((List.range ((ns.take 63).map V.int).length).map fun i => V.int (if (ns.take 63).getD i 0 < 0 then -((ns.take 63).getD i 0) else (ns.take 63).getD i 0)) = fs at *
      obtain ⟨is, hfs2, hpos⟩ : ∃ is : List Int, fs = is.map V.int ∧ ∀ x ∈ is, 0 ≤ x := by
        refine ⟨(List.range ((ns.take 63).map V.int).length).map fun i => (if (ns.take 63).getD i 0 < 0 then -((ns.take 63).getD i 0) else (ns.take 63).getD i 0), by rw [← hfs, List.map_map]; rfl, fun y hy => ?_⟩
        obtain ⟨i, _, rfl⟩ := List.mem_map.mp hy
        split <;> omega
      refine ⟨_, rfl, _, rfl, D, _, rfl, .inl (SqL.of hd), _, _, rfl, rfl, by show 5 ≤ sizeLine; decide, fun b nb => ?_⟩
      have sH : Same H H3 := s1.trans sm
      have s4 := same_upd (o := HO.lst [.ref D, .int 0, .int 0, .int (1 + (fs.length : Nat)), .int 0]) nb
      refine q _ b D (sH.trans s4) (sH.free nb) (s1.free hD) ⟨is, 0, 0, _, 0, upd_same, ?_, (fun e => by rw [e, nb] at hd; cases hd), by decide, hpos⟩
      rw [← hfs2]; exact s4 _ _ hd
theorem scDraw : FnScope ["hand", "many", "cell", "digit", "number"] ["hand", "many"] (defScope sDraw) := ⟨rfl, rfl, rfl, by decide +kernel, rfl, by decide +kernel, by decide +kernel⟩
theorem ok_draw {f : Addr} {fd : FuncData} {k : Nat} (F : Fun K "_law_draw" "_law_draw" sDraw f fd) (T : Tx mg) : FnOk P w K mg base CX0 (k + 1) f fd ["hand", "many"] spDraw := by
  refine F.ok scDraw (fun vs H Q E h => ?_) (fun cdv A outer s H vs Q E hr h => ?_)
  · obtain ⟨b, g, m, rfl, _⟩ := h
    rfl
  · obtain ⟨b, g, m, rfl, ⟨ns, at', big, sd, c, hb, hg, ngb, ha, hp⟩, hm0, hm1, q⟩ := h
    refine ⟨_, (pss_cons (ps_if (pt_and (pt_cmpR op_eq (pe_ix ix_list (pv 0) pe_int (fun _ _ => rfl)) pe_int (nomark _)) (pw_and1 (pt_cmpR op_lt (pe_ix ix_list (pv 0) pe_int (fun _ _ => rfl)) (pe_callB call_len_seq (by rfl) T.len_ PySem.boot_len (pa_cons (pe_ix ix_list (pv 0) pe_int (fun _ _ => rfl)) pa_nil)) (nomark _)))) (pss_cons (ps_set (i := 2) scDraw.nd rfl (Or.inl rfl) (pe_ix ix_list (pe_ix ix_list (pv 0) pe_int (fun _ _ => rfl)) (pe_ix ix_list (pv 0) pe_int (fun _ _ => rfl)) (fun _ _ => rfl))) (pss_cons (ps_asg (pe_op op_add (pe_ix ix_list (pv 0) pe_int (fun _ _ => rfl)) pe_int) (pg_sub (pv 0) pe_int set_list)) (pss_cons (ps_asg (pe_op op_mod (pe_callTy call_int1 (by rfl) T.int_ (by decide +kernel) (pa_cons (pe_op op_add (pe_op op_add (pe_op op_mul (pe_ix ix_list (pv 0) pe_int (fun _ _ => rfl)) pe_int) (pv 2)) pe_int) pa_nil)) pe_int) (pg_sub (pv 0) pe_int set_list)) (pss_one (ps_if (pt_cmpR op_ge (pv 2) (pe_op op_pow pe_int pe_int) (nomark _)) (pss_one (ps_asg (pv 2) (pg_sub (pv 0) pe_int set_list))) pss_nil))))) pss_nil) (pss_cons (ps_if (pt_cmpR op_gt (pe_ix ix_list (pv 0) pe_int (fun _ _ => rfl)) pe_int (nomark _)) (pss_cons (ps_set (i := 3) scDraw.nd rfl (Or.inl rfl) (pe_op op_mod (pe_callTy call_int1 (by rfl) T.int_ (by decide +kernel) (pa_cons (pe_ix ix_list (pv 0) pe_int (fun _ _ => rfl)) pa_nil)) (pv 1))) (pss_cons (ps_asg (pe_op op_fdiv (pe_ix ix_list (pv 0) pe_int (fun _ _ => rfl)) (pv 1)) (pg_sub (pv 0) pe_int set_list)) (pss_one (ps_ret (pv 3))))) pss_nil) (pss_cons (ps_asg (pe_op op_add (pe_ix ix_list (pv 0) pe_int (fun _ _ => rfl)) pe_int) (pg_sub (pv 0) pe_int set_list)) (pss_cons (ps_set (i := 4) scDraw.nd rfl (Or.inl rfl) (pe_op op_mod (pe_callTy call_int1 (by rfl) T.int_ (by decide +kernel) (pa_cons (pe_op op_mul (pe_callTy call_int1 (by rfl) T.int_ (by decide +kernel) (pa_cons (pe_op op_add (pe_ix ix_list (pv 0) pe_int (fun _ _ => rfl)) (pe_op op_mul pe_int (pe_ix ix_list (pv 0) pe_int (fun _ _ => rfl)))) pa_nil)) pe_int) pa_nil)) pe_int)) (pss_cons (ps_set (i := 4) scDraw.nd rfl (Or.inl rfl) (pe_op op_mod (pe_callTy call_int1 (by rfl) T.int_ (by decide +kernel) (pa_cons (pe_op op_mul (pv 4) (pe_op op_add (pe_op op_fdiv (pv 4) pe_int) pe_int)) pa_nil)) pe_int)) (pss_cons (ps_set (i := 4) scDraw.nd rfl (Or.inl rfl) (pe_op op_mod (pe_callTy call_int1 (by rfl) T.int_ (by decide +kernel) (pa_cons (pe_op op_mul (pv 4) (pe_op op_add (pe_op op_fdiv (pv 4) pe_int) pe_int)) pa_nil)) pe_int)) (pss_one (ps_ret (pe_op op_mod (pe_callTy call_int1 (by rfl) T.int_ (by decide +kernel) (pa_cons (pe_op op_fdiv (pv 4) pe_int) pa_nil)) (pv 1)))))))))), ?_⟩
    have a0 : ∀ {q1 q2 q3 q4 : Int}, atI ([.ref g, .int q1, .int q2, .int q3, .int q4] : List V) 0 = some (.ref g) := rfl
    have a1 : ∀ {q1 q2 q3 q4 : Int}, atI ([.ref g, .int q1, .int q2, .int q3, .int q4] : List V) 1 = some (.int q1) := rfl
    have a2 : ∀ {q1 q2 q3 q4 : Int}, atI ([.ref g, .int q1, .int q2, .int q3, .int q4] : List V) 2 = some (.int q2) := rfl
    have a3 : ∀ {q1 q2 q3 q4 : Int}, atI ([.ref g, .int q1, .int q2, .int q3, .int q4] : List V) 3 = some (.int q3) := rfl
    have a4 : ∀ {q1 q2 q3 q4 : Int}, atI ([.ref g, .int q1, .int q2, .int q3, .int q4] : List V) 4 = some (.int q4) := rfl
    refine seq_use (fun σ G => ∃ (y2 : Option V) (at1 big1 s1 : Int), σ = [some (.ref b), some (.int m), y2, none, none] ∧ BL [b] H G ∧ G b = some (.lst [.ref g, .int at1, .int big1, .int s1, .int c]) ∧ G g = some (.lst (ns.map V.int)) ∧ 0 ≤ at1) ?_ (fun hrest => ?_)
    · rintro σ G ⟨y2, at1, big1, s1, rfl, bl, hb1, hg1, ha1⟩
      refine ⟨_, rfl, b, _, _, _, rfl, rfl, .of hb1, a2, _, _, rfl, rfl, _, rfl, ?_⟩
      refine ite2 (fun _ => ?_) (fun _ => ?_)
      · refine ⟨_, rfl, b, _, _, _, rfl, rfl, .of hb1, a2, .inl ⟨big1, rfl, _, rfl, _, _, rfl, rfl, hm0, ?_⟩⟩
        refine ⟨_, rfl, b, _, _, _, rfl, rfl, .of hb1, a2, _, rfl, _, _, rfl, rfl, ⟨hm0, hm1⟩, _, rfl, b, _, _, 2, rfl, rfl, hb1, rfl, ?_⟩
        refine ⟨_, rfl, q _ _ (bl.trans (.upd (by simp))) ⟨ns, at1, big1 / m, s1, c, upd_same, ?_, ngb, ha1, hp⟩ (mod_in hm0).1 (mod_in hm0).2⟩
        rw [upd_ne ngb]; exact hg1
      · refine ⟨_, rfl, b, _, _, _, rfl, rfl, .of hb1, a4, _, _, rfl, rfl, _, rfl, b, _, _, 4, rfl, rfl, hb1, rfl, ?_⟩
        have e4 : ([.ref g, .int at1, .int big1, .int s1, .int c] : List V).set 4 (.int (c + 1)) = [.ref g, .int at1, .int big1, .int s1, .int (c + 1)] := rfl
        dsimp only
        rw [e4]
        have hb2 : (upd G b (.lst [.ref g, .int at1, .int big1, .int s1, .int (c + 1)])) b = some (.lst [.ref g, .int at1, .int big1, .int s1, .int (c + 1)]) := upd_same
        refine ⟨_, rfl, b, _, _, _, rfl, rfl, .of hb2, a3, _, rfl, b, _, _, _, rfl, rfl, .of hb2, a4, _, _, rfl, rfl, .inl ⟨by decide, by decide⟩, _, _, rfl, rfl, .inl ⟨_, rfl, _, _, rfl, rfl, .inr ⟨by decide, by decide⟩, .inl ⟨_, rfl, _, _, rfl, rfl, (by show (0 : Int) < 2147483647; decide), ?_⟩⟩⟩
        generalize hn1 : ((s1 + 7919 * (c + 1)) * 48271 % 2147483647 : Int) = n1
        have r1 : 0 ≤ n1 ∧ n1 < 2147483647 := by
          rw [← hn1]
          exact mod_in (by decide)
        refine ⟨_, rfl, _, rfl, _, _, rfl, rfl, ⟨by decide, by decide⟩, _, _, rfl, rfl, _, _, rfl, rfl, .inl ⟨by omega, by omega⟩, .inl ⟨_, rfl, _, _, rfl, rfl, (by show (0 : Int) < 2147483647; decide), ?_⟩⟩
        generalize hn2 : (n1 * (n1 / 1009 + 69621) % 2147483647 : Int) = n2
        have r2 : 0 ≤ n2 ∧ n2 < 2147483647 := by
          rw [← hn2]
          exact mod_in (by decide)
        refine ⟨_, rfl, _, rfl, _, _, rfl, rfl, ⟨by decide, by decide⟩, _, _, rfl, rfl, _, _, rfl, rfl, .inl ⟨by omega, by omega⟩, .inl ⟨_, rfl, _, _, rfl, rfl, (by show (0 : Int) < 2147483399; decide), ?_⟩⟩
        refine ⟨_, rfl, _, _, rfl, rfl, ⟨by decide, by decide⟩, .inl ⟨_, rfl, _, rfl, _, _, rfl, rfl, hm0, ?_⟩⟩
        refine q _ _ (bl.trans (.upd (by simp))) ⟨ns, at1, big1, s1, c + 1, upd_same, ?_, ngb, ha1, hp⟩ (mod_in hm0).1 (mod_in hm0).2
        rw [upd_ne ngb]; exact hg1
    · refine ⟨_, rfl, b, _, _, _, rfl, rfl, .of hb, a2, rfl, _, rfl, ?_⟩
      refine ite2 (fun _ => ?_) (fun _ => ?_)
      · refine ⟨_, rfl, b, _, _, _, rfl, rfl, .of hb, a1, _, rfl, b, _, _, _, rfl, rfl, .of hb, a0, g, _, rfl, .inl (.of hg), _, _, rfl, rfl, _, rfl, ?_⟩
        refine ite2 (fun hl => ?_) (fun _ => ?_)
        · have hl2 := of_decide_eq_true hl
          rw [List.length_map] at hl2
          obtain ⟨j, rfl⟩ : ∃ j : Nat, at' = j := ⟨at'.toNat, by omega⟩
          have hj : j < ns.length := by omega
          refine ⟨_, rfl, b, _, _, _, rfl, rfl, .of hb, a0, _, rfl, b, _, _, _, rfl, rfl, .of hb, a1, g, _, _, .int ns[j], rfl, rfl, .of hg, atI_nat (by rw [List.getElem?_map, List.getElem?_eq_getElem hj]; rfl), ?_⟩
          refine ⟨_, rfl, b, _, _, _, rfl, rfl, .of hb, a1, _, _, rfl, rfl, _, rfl, b, _, _, 1, rfl, rfl, hb, rfl, ?_⟩
          have e1 : ([.ref g, .int (j : Int), .int big, .int sd, .int c] : List V).set 1 (.int ((j : Int) + 1)) = [.ref g, .int ((j : Int) + 1), .int big, .int sd, .int c] := rfl
          dsimp only
          rw [e1]
          have hb2 : (upd H b (.lst [.ref g, .int ((j : Int) + 1), .int big, .int sd, .int c])) b = some (.lst [.ref g, .int ((j : Int) + 1), .int big, .int sd, .int c]) := upd_same
          refine ⟨_, rfl, b, _, _, _, rfl, rfl, .of hb2, a3, _, _, rfl, rfl, .inr ⟨by decide, by decide⟩, _, rfl, _, _, rfl, rfl, _, _, rfl, rfl, .inl ⟨_, rfl, _, _, rfl, rfl, (by show (0 : Int) < 2147483629; decide), _, rfl, b, _, _, 3, rfl, rfl, hb2, rfl, ?_⟩⟩
          rw [upd_upd]
          dsimp only
          generalize hs3 : ((sd * 69621 + ns[j] + 11) % 2147483629 : Int) = s3
          have e3 : ([.ref g, .int ((j : Int) + 1), .int big, .int sd, .int c] : List V).set 3 (.int s3) = [.ref g, .int ((j : Int) + 1), .int big, .int s3, .int c] := rfl
          rw [e3]
          have hb3 : (upd H b (.lst [.ref g, .int ((j : Int) + 1), .int big, .int s3, .int c])) b = some (.lst [.ref g, .int ((j : Int) + 1), .int big, .int s3, .int c]) := upd_same
          refine ⟨_, rfl, _, _, rfl, rfl, ⟨by decide, by decide, by decide⟩, _, _, rfl, rfl, _, rfl, ?_⟩
          refine ite2 (fun _ => ?_) (fun _ => ?_)
          · refine ⟨_, rfl, _, rfl, b, _, _, 2, rfl, rfl, hb3, rfl, ?_⟩
            rw [upd_upd]
            refine hrest _ _ ⟨_, (j : Int) + 1, ns[j], s3, rfl, .upd (by simp), upd_same, ?_, by omega⟩
            rw [upd_ne ngb]; exact hg
          · refine hrest _ _ ⟨_, (j : Int) + 1, big, s3, rfl, .upd (by simp), upd_same, ?_, by omega⟩
            rw [upd_ne ngb]; exact hg
        · exact hrest _ _ ⟨_, at', big, sd, rfl, .refl, hb, hg, ha⟩
      · exact hrest _ _ ⟨_, at', big, sd, rfl, .refl, hb, hg, ha⟩
theorem scAny : FnScope ["hand", "items"] ["hand", "items"] (defScope sAny) := ⟨rfl, rfl, rfl, by decide +kernel, rfl, by decide +kernel, by decide +kernel⟩
theorem ok_any {f : Addr} {fd : FuncData} {k : Nat} (F : Fun K "_law_any" "_law_any" sAny f fd) (T : Tx mg) (cD : Cal P w K mg base (k + 1) "_law_draw" ["hand", "many"] spDraw) : FnOk P w K mg base CX0 (k + 2) f fd ["hand", "items"] spAny := by
  refine F.ok scAny (fun vs H Q E h => ?_) (fun cdv A outer s H vs Q E hr h => ?_)
  · obtain ⟨b, g, t, xs, rfl, _⟩ := h
    rfl
  · obtain ⟨b, g, t, xs, rfl, hB, hS, ntb, hne, hlen, q⟩ := h
    refine ⟨_, (pss_one (ps_ret (pe_ix ix_list (pv 1) (pe_c cD hr (by omega) (by rfl) (pa_cons (pv 0) (pa_cons (pe_callB call_len_seq (by rfl) T.len_ PySem.boot_len (pa_cons (pv 1) pa_nil)) pa_nil))) (fun _ _ => rfl)))), ?_⟩
    have hl : 0 < xs.length := List.length_pos_iff.mpr hne
    refine ⟨_, rfl, _, rfl, _, rfl, t, xs, rfl, .inl (.of hS), ?_⟩
    refine ⟨b, g, _, rfl, hB, by omega, by omega, fun H' r hbl hB' h0 h1 => ?_⟩
    have hS' := hbl _ _ (by simpa using ntb) hS
    have hr' : r.toNat < xs.length := by omega
    have er : xs[r.toNat]? = some xs[r.toNat] := List.getElem?_eq_getElem hr'
    have ea := atI_nat er
    rw [Int.toNat_of_nonneg h0] at ea
    exact ⟨t, xs, r, _, rfl, rfl, .of hS', ea, q _ _ hbl hB' (List.getElem_mem hr')⟩
end
end L2.My
end
section
set_option Elab.async false
set_option linter.all false
set_option maxRecDepth 100000
set_option maxHeartbeats 4000000
namespace L2.My
open PySem PySem.Spec PyProof.Rows
abbrev sPool : Stmt := top 27
abbrev sLfact : Stmt := top 26
def spLfact : Sp := fun vs H Q _ => ∃ (b g : Addr), vs = [.ref b] ∧ HandAt H b g ∧ ∀ H' p f, BL [b] H H' → HandAt H' b g → FactAt H' p f → GF f → Q (.ref p) H'
theorem word_cut : ∀ r : Nat, r < 5 → wordS (cutS "abcdefghijkl" (some (r : Int)) none) := by
  intro r hr
  unfold wordS
  match r, hr with
  | 0, _ => decide +kernel
  | 1, _ => decide +kernel
  | 2, _ => decide +kernel
  | 3, _ => decide +kernel
  | 4, _ => decide +kernel
theorem word_any : ∀ z ∈ (["a", "b", "path", "turn"] : List Str), wordS z := by
  intro z hz
  unfold wordS
  revert z
  decide +kernel
theorem GF.mk {z : Str} {is : List Int} (hz : wordS z) (hl : is.length ≤ 4) (h : ∀ i ∈ is, 0 ≤ i ∧ i < 1000000000000) : GF (.inr z :: is.map .inl) := ⟨z, is, rfl, hz, hl, h⟩
section
variable {P : Program} {w : World} {K : PySem.W.Frag} {mg : Str → Option Value} {base : Heap}
theorem scLf : FnScope ["hand", "word", "k"] ["hand"] (defScope sLfact) := ⟨rfl, rfl, rfl, by decide +kernel, rfl, by decide +kernel, by decide +kernel⟩
theorem ok_lfact {f : Addr} {fd : FuncData} {k : Nat} (F : Fun K "_law_fact" "_law_fact" sLfact f fd) (T : Tx mg) (cD : Cal P w K mg base (k + 2) "_law_draw" ["hand", "many"] spDraw) (cA : Cal P w K mg base (k + 2) "_law_any" ["hand", "items"] spAny) : FnOk P w K mg base CX0 (k + 3) f fd ["hand"] spLfact := by
  refine F.ok scLf (fun vs H Q E h => ?_) (fun cdv A outer s H vs Q E hr h => ?_)
  · obtain ⟨b, g, rfl, _⟩ := h
    rfl
  · obtain ⟨b, g, rfl, hB, q⟩ := h
    refine ⟨_, (pss_cons (ps_if (pt_cmpR op_eq (pe_c cD hr (by omega) (by rfl) (pa_cons (pv 0) (pa_cons pe_int pa_nil))) pe_int (nomark _)) (pss_one (ps_ret (pe_tup (pa_cons (pe_slice sl_str pe_str (po_some (pe_c cD hr (by omega) (by rfl) (pa_cons (pv 0) (pa_cons pe_int pa_nil)))) po_none) (pa_cons pe_int (pa_cons pe_int (pa_cons (pe_c cD hr (by omega) (by rfl) (pa_cons (pv 0) (pa_cons pe_int pa_nil))) (pa_cons pe_int pa_nil)))))))) pss_nil) (pss_cons (ps_set (i := 1) scLf.nd rfl (Or.inl rfl) (pe_c cA hr (by omega) (by rfl) (pa_cons (pv 0) (pa_cons (pe_lst (pa_cons pe_str (pa_cons pe_str (pa_cons pe_str (pa_cons pe_str pa_nil))))) pa_nil)))) (pss_one (ps_ret (pe_op op_catT (pe_tup (pa_cons (pv 1) pa_nil)) (pe_tupleOf (by rfl) T.tuple_ (pe_lc (own := [("k", 2)]) (g := gName 2) (te := tCall spDraw [] E0 (tCons (tVar 0) (tCons (tC (.int 3)) tNil))) rfl scLf.nd (pi_range1 (by rfl) T.range_ (pa_cons (pe_c cD hr (by omega) (by rfl) (pa_cons (pv 0) (pa_cons pe_int pa_nil))) pa_nil)) (blkOk_by (N := ["hand", "word", "k"]) (sc := defScope sLfact) (by decide +kernel)) (fun _ _ _ _ _ => pg_name (i := 2) scLf.nd rfl (Or.inl rfl)) (fun _ _ _ _ _ => pts_nil) (fun _ _ _ _ _ => (pe_c cD hr (by omega) (by rfl) (pa_cons (pv 0) (pa_cons pe_int pa_nil))))))))))), ?_⟩
    refine ⟨_, rfl, b, g, 40, rfl, hB, by decide, by decide, fun H1 r1 bl1 hB1 h10 h11 => ⟨rfl, _, rfl, ?_⟩⟩
    refine ite2 (fun _ => ?_) (fun _ => ?_)
    · refine ⟨_, rfl, b, g, 5, rfl, hB1, by decide, by decide, fun H2 r2 bl2 hB2 h20 h21 => ?_⟩
      obtain ⟨n, rfl⟩ : ∃ n : Nat, r2 = n := ⟨r2.toNat, by omega⟩
      refine ⟨_, rfl, _, rfl, by decide, ?_⟩
      refine ⟨_, rfl, b, g, 3, rfl, hB2, by decide, by decide, fun H3 r3 bl3 hB3 h30 h31 => ⟨by show 5 ≤ sizeLine; decide, fun p np => ?_⟩⟩
      have s4 := same_upd (o := HO.tup [.str (cutS "abcdefghijkl" (some (n : Int)) none), .int 999999999999, .int 0, .int r3, .int 7]) np
      refine q _ p (.inr (cutS "abcdefghijkl" (some (n : Int)) none) :: [999999999999, 0, r3, 7].map .inl) (bl1.trans (bl2.trans (bl3.trans (.same s4)))) (hB3.same s4) upd_same (GF.mk (word_cut n (by omega)) (Nat.le_refl 4) fun y hy => ?_)
      simp only [List.mem_cons, List.not_mem_nil, or_false] at hy
      rcases hy with rfl | rfl | rfl | rfl <;> omega
    · refine ⟨_, rfl, by show 4 ≤ sizeLine; decide, fun l nl => ?_⟩
      have s2 := same_upd (o := HO.lst [.str "a", .str "b", .str "path", .str "turn"]) nl
      have nlb : l ≠ b := hB1.nb nl
      refine ⟨b, g, l, _, rfl, hB1.same s2, upd_same, nlb, by simp, by decide, fun H2 v bl2 hB2 hv => ?_⟩
      obtain ⟨z, hz, rfl⟩ : ∃ z, wordS z ∧ v = .str z := by
        have hv2 : v ∈ (["a", "b", "path", "turn"] : List Str).map V.str := hv
        obtain ⟨z, hz, rfl⟩ := List.mem_map.mp hv2
        exact ⟨z, word_any z hz, rfl⟩
      have bl12 : BL [b] H H2 := bl1.trans (.trans (.same s2) bl2)
      refine ⟨_, rfl, by show 1 ≤ sizeLine; decide, fun tw ntw => ?_⟩
      have s3 := same_upd (o := HO.tup [.str z]) ntw
      have htw : (upd H2 tw (.tup [.str z])) tw = some (.tup [.str z]) := upd_same
      have hB3 := hB2.same s3
      have bl3 := bl12.trans (.same s3)
      generalize hH3 : upd H2 tw (.tup [.str z]) = H3 at *
      refine ⟨_, rfl, b, g, 3, rfl, hB3, by decide, by decide, fun H4 r4 bl4 hB4 h40 h41 => ?_⟩
      refine ⟨_, rfl, by omega, by omega, fun D nD => ?_⟩
      have nDb : b ≠ D := Ne.symm (hB4.nb nD)
      have nDg := hB4.ng nD
      have htw4 := hB3.tk bl4 _ _ htw
      refine lc_it (walk_range (lo := 0)) (fun i G => BL [b] H4 G ∧ HandAt G b g ∧ ∃ is : List Int, G D = some (.lst (is.map V.int)) ∧ is.length = i ∧ ∀ y ∈ is, 0 ≤ y ∧ y < 3) ⟨.same (same_upd nD), hB4.same (same_upd nD), [], upd_same, rfl, by simp⟩ (fun i G _ _ => trivial) ?_ ?_
      · rintro i y G G' hi ⟨blg, hBg, is, hD, hl, hb3⟩ ⟨rfl, rfl⟩
        refine ⟨rfl, _, rfl, b, g, 3, rfl, hBg, by decide, by decide, fun H5 r5 bl5 hB5 h50 h51 => ?_⟩
        have hD5 := bl5 _ _ (by simpa using Ne.symm nDb) hD
        refine ⟨_, hD5, by rw [List.length_map]; exact Nat.lt_of_le_of_lt (show is.length ≤ 3 by omega) (by decide), BL.put (blg.trans bl5) nD, hB5.put (Ne.symm nDb) nDg, is ++ [r5], by rw [upd_same, List.map_append]; rfl, by rw [List.length_append, hl]; rfl, fun x hx => ?_⟩
        rcases List.mem_append.mp hx with h | h
        · exact hb3 x h
        · rw [List.mem_singleton.mp h]; exact ⟨h50, h51⟩
      · rintro G ⟨blg, hBg, is, hD, hl, hb3⟩
        refine .inl ⟨D, _, rfl, SqL.of hD, fun t nt => ?_⟩
        have s5 := same_upd (o := HO.tup (is.map V.int)) nt
        have bl4t := bl3.trans bl4
        have hl2 : is.length ≤ 2 := by omega
        refine ⟨tw, t, _, _, rfl, rfl, .of (s5 _ _ (hB4.tk blg _ _ htw4)), .of upd_same, by simp, by simp only [List.length_map, List.length_cons, List.length_nil]; exact Nat.le_trans (show 0 + 1 + is.length ≤ 3 by omega) (by decide), fun e => ?_, fun _ p np => ?_⟩
        · refine q _ tw (.inr z :: [].map .inl) (bl4t.trans (blg.trans (.same s5))) (hBg.same s5) (s5 _ _ (hB4.tk blg _ _ htw4)) (GF.mk hz (by decide) (by simp))
        · have s6 := same_upd (o := HO.tup ([.str z] ++ is.map V.int)) np
          refine q _ p (.inr z :: is.map .inl) (bl4t.trans (blg.trans (.same (s5.trans s6)))) (hBg.same (s5.trans s6)) ?_ (GF.mk hz (by omega) fun y hy => ?_)
          · unfold FactAt
            rw [upd_same, List.map_cons, List.map_map]
            rfl
          · have := hb3 y hy
            omega
end
end L2.My
end
section
set_option Elab.async false
set_option linter.all false
set_option maxRecDepth 100000
set_option maxHeartbeats 4000000
namespace L2.My
open PySem PySem.Spec PyProof.Rows
def dF (f : Fc) : PyData := .tuple (f.map kD)
theorem dpKs {K : PySem.W.Frag} {H : Hp} : ∀ f : Fc, DpAll K H (f.map kV) (f.map kD)
  | [] => .nil
  | .inl i :: r => .cons (.int i) (dpKs r)
  | .inr x :: r => .cons (.str x) (dpKs r)
theorem dpF {K : PySem.W.Frag} {H : Hp} {a : Addr} {f : Fc} (h : FactAt H a f) : Dp K H (.ref a) (dF f) := .tup (.of h) (dpKs f)
theorem dpFs {K : PySem.W.Frag} {H : Hp} {as : List Addr} {fs : List Fc} (h : Paired (FactAt H) as fs) : DpAll K H (as.map .ref) (fs.map dF) := by
  induction h with
  | nil => exact .nil
  | cons r _ ih => exact .cons (dpF r) ih
theorem dep_kD (f : Fc) : PyData.depthAll (f.map kD) ≤ 0 := dep_map (n := 0) (fun x => by cases x <;> simp [kD, PyData.depth]) f
theorem dep_dF (f : Fc) : PyData.depth (dF f) ≤ 1 := by
  have := dep_kD f
  simp only [dF, PyData.depth]
  omega
theorem str_ok {z : Str} (h : wordS z) : PyData.strOk z = true := by
  unfold PyData.strOk
  rw [Array.all_eq_true_iff_forall_mem]
  intro x hx
  have := List.all_eq_true.mp h.2.2 x (by simpa using hx)
  rw [Bool.and_eq_true, decide_eq_true_eq, decide_eq_true_eq] at this
  rw [decide_eq_true_eq]
  omega
theorem can_dF {f : Fc} (h : GF f) : PyData.canLay0 (dF f) = true := by
  obtain ⟨z, is, rfl, hz, _⟩ := h
  have h1 : PyData.canLayAll0 ((is.map Sum.inl : Fc).map kD) = true := can_map fun x hx => by
    obtain ⟨i, _, rfl⟩ := List.mem_map.mp hx
    simp [kD, PyData.canLay0]
  simp only [dF, PyData.canLay0, List.map_cons, PyData.canLayAll0, kD, str_ok hz, Bool.true_and]
  exact h1
theorem shaped_dF {f : Fc} (h : GF f) : SeqAt.shaped (dF f) = true := by
  have := dep_dF f
  simp only [SeqAt.shaped, can_dF h, Bool.true_and]
  exact decide_eq_true (by omega)
theorem shaped_dFs {fs : List Fc} (h : ∀ f ∈ fs, GF f) : SeqAt.shaped (.list (fs.map dF)) = true := shaped_list (n := 1) (by decide) dep_dF fun f hf => can_dF (h f hf)
def PoolAt (H : Hp) (l : Addr) (fs : List Fc) (N : Nat) : Prop := ∃ as : List Addr, H l = some (.lst (as.map .ref)) ∧ Paired (FactAt H) as fs ∧ (∀ f ∈ fs, GF f) ∧ 1 ≤ fs.length ∧ fs.length ≤ N
theorem PoolAt.tk {H H' : Hp} {l : Addr} {fs : List Fc} {N : Nat} (h : PoolAt H l fs N) (t : TK H H') (e : ∀ xs, H l = some (.lst xs) → H' l = some (.lst xs)) : PoolAt H' l fs N := by
  obtain ⟨as, h1, h2, r⟩ := h
  exact ⟨as, e _ h1, Paired.mapP h2 fun _ _ z => z.tk t, r⟩
def spPool : Sp := fun vs H Q _ => ∃ (b g : Addr) (m : Int), vs = [.ref b, .int m] ∧ HandAt H b g ∧ 0 ≤ m ∧ m ≤ 20 ∧ ∀ H' l fs, BL [b] H H' → HandAt H' b g → H l = none → PoolAt H' l fs 30 → Q (.ref l) H'
section
variable {P : Program} {w : World} {K : PySem.W.Frag} {mg : Str → Option Value} {base : Heap}
theorem scPool : FnScope ["hand", "many", "found", "turn", "one"] ["hand", "many"] (defScope sPool) := ⟨rfl, rfl, rfl, by decide +kernel, rfl, by decide +kernel, by decide +kernel⟩
theorem ok_pool {f : Addr} {fd : FuncData} {k : Nat} (F : Fun K "_law_pool" "_law_pool" sPool f fd) (T : Tx mg) (cF : Cal P w K mg base (k + 3) "_law_fact" ["hand"] spLfact) : FnOk P w K mg base CX0 (k + 4) f fd ["hand", "many"] spPool := by
  refine F.ok scPool (fun vs H Q E h => ?_) (fun cdv A outer s H vs Q E hr h => ?_)
  · obtain ⟨b, g, m, rfl, _⟩ := h
    rfl
  · obtain ⟨b, g, m, rfl, hB, hm0, hm1, q⟩ := h
    refine ⟨_, (pss_cons (ps_set (i := 2) scPool.nd rfl (Or.inl rfl) (pe_lst (pa_cons (pe_tup (pa_cons pe_str pa_nil)) pa_nil))) (pss_cons (ps_for PassesOwn.never rfl (pi_range1 (by rfl) T.range_ (pa_cons (pv 1) pa_nil)) (pg_name (i := 3) scPool.nd rfl (Or.inl rfl)) (pss_cons (ps_set (i := 4) scPool.nd rfl (Or.inl rfl) (pe_c cF hr (by omega) (by rfl) (pa_cons (pv 0) pa_nil))) (pss_one (ps_if (pt_cmpR (op_notInD (u65 hr)) (pv 4) (pv 2) rfl) (pss_one (ps_expr (pe_bm PySem.F.plainAttrs_list PySem.F.slot_list_append PySem.F.type_list_append mt_append (pv 2) (pa_cons (pv 4) pa_nil)))) pss_nil)))) (pss_one (ps_ret (pv 2))))), ?_⟩
    refine ⟨by show 1 ≤ sizeLine; decide, fun t nt => ⟨by show 1 ≤ sizeLine; decide, fun l nl => ?_⟩⟩
    have s1 := same_upd (o := HO.tup [.str "a"]) nt
    have s2 := same_upd (o := HO.lst [.ref t]) nl
    have s12 := s1.trans s2
    have hl2 : (upd (upd H t (.tup [.str "a"])) l (.lst [.ref t])) l = some (.lst [.ref t]) := upd_same
    have ht2 := s2 _ _ (show (upd H t (.tup [.str "a"])) t = some (.tup [.str "a"]) from upd_same)
    have hB2 := hB.same s12
    have nlH : H l = none := s1.free nl
    have nlb := hB.nb nlH
    have nlg := hB.ng nlH
    generalize hH2 : upd (upd H t (.tup [.str "a"])) l (.lst [.ref t]) = H2 at *
    refine ⟨_, rfl, m, rfl, by omega, by omega, ?_⟩
    refine for_it (walk_range (lo := 0)) (fun i σ G => ∃ y3 y4, σ = [some (.ref b), some (.int m), some (.ref l), y3, y4] ∧ BL [b] H G ∧ HandAt G b g ∧ ∃ fs, PoolAt G l fs (1 + i)) ⟨_, _, rfl, .same s12, hB2, [[.inr "a"]], [t], hl2, .cons ht2 .nil, fun f hf => ?_, by decide, by decide⟩ (fun i σ G _ _ => trivial) ?_ ?_
    · rw [List.mem_singleton.mp hf]
      exact GF.mk (z := "a") (is := []) (word_any "a" (by decide)) (by decide) (by simp)
    · rintro i y σ G G' hi ⟨y3, y4, rfl, bl, hBg, fs, hP⟩ ⟨rfl, rfl⟩
      refine ⟨_, rfl, b, g, rfl, hBg, fun H5 p f bl5 hB5 hf5 gf => ?_⟩
      have tk5 := hBg.tk bl5
      obtain ⟨as, p1, p2, p3, p4, p5⟩ := hP.tk tk5 (fun xs e => bl5 _ _ (by simpa using nlb) e)
      have la := Paired.len p2
      refine ⟨_, rfl, _, rfl, dF f, fs.map dF, dpF hf5, .lst (.of p1) (dpFs p2), shaped_dF gf, shaped_dFs p3, _, rfl, ?_⟩
      refine ite2 (fun _ => ?_) (fun _ => ?_)
      · have tkA : TK H5 (upd H5 l (.lst (as.map V.ref ++ [.ref p]))) := TK.upd p1 (fun xs e => nomatch e)
        refine ⟨_, rfl, .inl ⟨rfl, _, SqL.of p1⟩, _, rfl, l, _, _, rfl, rfl, p1, ?_, ?_⟩
        · rw [List.length_map]
          exact Nat.lt_of_le_of_lt (show as.length ≤ 2000 by omega) (by decide)
        · refine ⟨_, _, rfl, BL.put (bl.trans bl5) nlH, hB5.put nlb nlg, fs ++ [f], as ++ [p], by rw [upd_same, List.map_append]; rfl, Paired.snoc (Paired.mapP p2 fun _ _ z => z.tk tkA) (hf5.tk tkA), fun x hx => ?_, by rw [List.length_append]; omega, by rw [List.length_append, List.length_singleton]; omega⟩
          rcases List.mem_append.mp hx with h | h
          · exact p3 x h
          · rw [List.mem_singleton.mp h]; exact gf
      · exact ⟨_, _, rfl, bl.trans bl5, hB5, fs, as, p1, p2, p3, p4, by omega⟩
    · rintro σ G ⟨y3, y4, rfl, bl, hBg, fs, hP⟩
      obtain ⟨as, p1, p2, p3, p4, p5⟩ := hP
      exact ⟨_, rfl, q _ l fs bl hBg nlH ⟨as, p1, p2, p3, p4, by omega⟩⟩
end
end L2.My
end
section
set_option Elab.async false
set_option linter.all false
set_option maxRecDepth 100000
set_option maxHeartbeats 4000000
namespace L2.My
open PySem PySem.Spec PyProof.Rows
structure GQ (cs : List Cz) (gs : List (List Fc)) : Prop where
  cl : ∀ c ∈ cs, (∀ f ∈ c.1, GF f) ∧ GF c.2
  gr : ∀ g ∈ gs, ∀ f ∈ g, GF f
theorem GR.q {cs : List Cz} {gs : List (List Fc)} (h : GR cs gs) : GQ cs gs := ⟨fun c hc => (h.cl c hc).2, h.gr⟩
/-! ### what passed all judges -/
theorem wordB_S {z : Str} : wordB z = true ↔ wordS z := by
  unfold wordB wordS
  rw [Bool.and_eq_true, Bool.and_eq_true, decide_eq_true_eq, decide_eq_true_eq]
  rfl
theorem ints_of : ∀ {xs : List V}, xs.all (belowV 1000000000000) = true → ∃ is : List Int, xs = is.map V.int ∧ ∀ i ∈ is, 0 ≤ i ∧ i < 1000000000000
  | [], _ => ⟨[], rfl, by simp⟩
  | x :: r, h => by
    rw [List.all_cons, Bool.and_eq_true] at h
    obtain ⟨is, e, h2⟩ := ints_of h.2
    cases x with
    | int i =>
      refine ⟨i :: is, by rw [e]; rfl, fun j hj => ?_⟩
      rcases List.mem_cons.mp hj with z | z
      · rw [z]; exact of_decide_eq_true h.1
      · exact h2 j z
    | _ => exact absurd h.1 (by simp [belowV])
theorem all_ints {is : List Int} (h : ∀ i ∈ is, 0 ≤ i ∧ i < 1000000000000) : (is.map V.int).all (belowV 1000000000000) = true := by
  rw [List.all_eq_true]
  intro x hx
  obtain ⟨i, hi, rfl⟩ := List.mem_map.mp hx
  exact decide_eq_true (h i hi)
theorem fact_of {b : Addr} {H : Hp} {v : V} (h : Thg b H v) (hb : factB H v = true) : ∃ a f, v = .ref a ∧ FactAt H a f ∧ GF f := by
  obtain ⟨t, ht⟩ := h.th
  rcases tup_cases ht with ⟨a, ys, rfl, ha, et, _⟩ | ⟨e, _⟩
  · cases ys with
    | nil => rw [factB_nil et] at hb; cases hb
    | cons x xs =>
      rw [factB_at et, Bool.and_eq_true, Bool.and_eq_true, decide_eq_true_eq] at hb
      obtain ⟨h4, hw, hi⟩ := hb
      obtain ⟨is, rfl, hr⟩ := ints_of hi
      cases x with
      | str z =>
        refine ⟨a, .inr z :: is.map .inl, rfl, ?_, z, is, rfl, wordB_S.mp hw, by rw [List.length_map] at h4; exact h4, hr⟩
        unfold FactAt
        rw [ha, List.map_cons, List.map_map]
        rfl
      | _ => cases hw
  · rw [factB_no e] at hb; cases hb
theorem facts_of {b : Addr} {H : Hp} : ∀ {xs : List V}, (∀ x ∈ xs, Thg b H x) → xs.all (factB H) = true → ∃ (as : List Addr) (fs : List Fc), xs = as.map .ref ∧ Paired (FactAt H) as fs ∧ ∀ f ∈ fs, GF f
  | [], _, _ => ⟨[], [], rfl, .nil, by simp⟩
  | x :: r, h, hb => by
    rw [List.all_cons, Bool.and_eq_true] at hb
    obtain ⟨as, fs, e, hp, hg⟩ := facts_of (fun y hy => h y (List.mem_cons_of_mem _ hy)) hb.2
    obtain ⟨a, f, rfl, hf, gf⟩ := fact_of (h x List.mem_cons_self) hb.1
    refine ⟨a :: as, f :: fs, by rw [e]; rfl, .cons hf hp, fun g hgm => ?_⟩
    rcases List.mem_cons.mp hgm with z | z
    · rw [z]; exact gf
    · exact hg g z
theorem tuple_of {b : Addr} {H : Hp} {v : V} {n : Nat} (h : Thg b H v) (hb : factsB H n v = true) : ∃ a fs, v = .ref a ∧ FactsAt H a fs ∧ (∀ f ∈ fs, GF f) ∧ fs.length ≤ n := by
  obtain ⟨t, ht⟩ := h.th
  rcases tup_cases ht with ⟨a, ys, rfl, ha, et, _⟩ | ⟨e, _⟩
  · rw [factsB_at et, Bool.and_eq_true, decide_eq_true_eq] at hb
    obtain ⟨as, fs, rfl, hp, hg⟩ := facts_of (h.sub ha).2 hb.2
    exact ⟨a, fs, rfl, ⟨as, ha, hp⟩, hg, by rw [← Paired.len hp]; simpa using hb.1⟩
  · rw [factsB_no e] at hb; cases hb
theorem clause_of {b : Addr} {H : Hp} {v : V} (h : Thg b H v) (hb : clauseB H v = true) : ∃ a c, v = .ref a ∧ ClAt H a c ∧ (∀ f ∈ c.1, GF f) ∧ GF c.2 := by
  obtain ⟨t, ht⟩ := h.th
  rcases tup_cases ht with ⟨a, ys, rfl, ha, et, _⟩ | ⟨e, _⟩
  · by_cases h2 : ys.length = 2
    · match ys, h2, ha, et with
      | [x, y], _, ha, et =>
        rw [clauseB_at et, Bool.and_eq_true] at hb
        obtain ⟨xa, fs, rfl, hx, gx, _⟩ := tuple_of ((h.sub ha).2 x (by simp)) hb.1
        obtain ⟨ya, f, rfl, hy, gy⟩ := fact_of ((h.sub ha).2 y (by simp)) hb.2
        exact ⟨a, (fs, f), rfl, ⟨xa, ya, ha, hx, hy⟩, gx, gy⟩
    · rw [clauseB_len et h2] at hb; cases hb
  · rw [clauseB_no e] at hb; cases hb
theorem good_of {b : Addr} {H : Hp} {c g : V} (hc : Thg b H c) (hg : Thg b H g) (hf : faultOf H c g = none) : ∃ ca ga cs gs, c = .ref ca ∧ g = .ref ga ∧ ClsAt H ca cs ∧ GrsAt H ga gs ∧ GQ cs gs := by
  obtain ⟨tc, htc⟩ := hc.th
  rcases tup_cases htc with ⟨ca, xs, rfl, hca, ec, _⟩ | ⟨e1, e2⟩
  rotate_left
  · rw [fault_cl e1] at hf; cases hf
  obtain ⟨tg, htg⟩ := hg.th
  rcases tup_cases htg with ⟨ga, ys, rfl, hga, eg, _⟩ | ⟨e1, e2⟩
  rotate_left
  · rw [fault_gr ec e1] at hf; cases hf
  by_cases h60 : 60 < ys.length
  · rw [fault_gl ec eg h60] at hf; cases hf
  have n1 : badI (clauseB H) xs = none := by
    cases e : badI (clauseB H) xs with
    | none => rfl
    | some n => rw [fault_at ec eg h60 e] at hf; cases hf
  have n2 : badI (factsB H 5000) ys = none := by
    rw [fault_gn ec eg h60 n1] at hf
    cases e : badI (factsB H 5000) ys with
    | none => rfl
    | some n => rw [e] at hf; cases hf
  have q1 := badI_none.mp n1
  have q2 := badI_none.mp n2
  have r1 : ∀ xs : List V, (∀ x ∈ xs, Thg b H x) → (∀ x ∈ xs, clauseB H x = true) → ∃ (as : List Addr) (cs : List Cz), xs = as.map .ref ∧ Paired (ClAt H) as cs ∧ ∀ c ∈ cs, (∀ f ∈ c.1, GF f) ∧ GF c.2 := by
    intro xs
    induction xs with
    | nil => intro _ _; exact ⟨[], [], rfl, .nil, by simp⟩
    | cons x r ih =>
      intro h1 h2
      obtain ⟨as, cs, e, hp, hq⟩ := ih (fun y hy => h1 y (List.mem_cons_of_mem _ hy)) (fun y hy => h2 y (List.mem_cons_of_mem _ hy))
      obtain ⟨a, c, rfl, hc, gc⟩ := clause_of (h1 x List.mem_cons_self) (h2 x List.mem_cons_self)
      refine ⟨a :: as, c :: cs, by rw [e]; rfl, .cons hc hp, fun d hd => ?_⟩
      rcases List.mem_cons.mp hd with z | z
      · rw [z]; exact gc
      · exact hq d z
  have r2 : ∀ xs : List V, (∀ x ∈ xs, Thg b H x) → (∀ x ∈ xs, factsB H 5000 x = true) → ∃ (as : List Addr) (gs : List (List Fc)), xs = as.map .ref ∧ Paired (FactsAt H) as gs ∧ ∀ g ∈ gs, ∀ f ∈ g, GF f := by
    intro xs
    induction xs with
    | nil => intro _ _; exact ⟨[], [], rfl, .nil, by simp⟩
    | cons x r ih =>
      intro h1 h2
      obtain ⟨as, cs, e, hp, hq⟩ := ih (fun y hy => h1 y (List.mem_cons_of_mem _ hy)) (fun y hy => h2 y (List.mem_cons_of_mem _ hy))
      obtain ⟨a, c, rfl, hc, gc, _⟩ := tuple_of (h1 x List.mem_cons_self) (h2 x List.mem_cons_self)
      refine ⟨a :: as, c :: cs, by rw [e]; rfl, .cons hc hp, fun d hd => ?_⟩
      rcases List.mem_cons.mp hd with z | z
      · rw [z]; exact gc
      · exact hq d z
  obtain ⟨as, cs, rfl, p1, g1⟩ := r1 xs (hc.sub hca).2 q1
  obtain ⟨bs, gs, rfl, p2, g2⟩ := r2 ys (hg.sub hga).2 q2
  exact ⟨ca, ga, cs, gs, rfl, rfl, ⟨as, hca, p1⟩, ⟨bs, hga, p2⟩, g1, g2⟩
/-! ### what was made well passes them -/
def NoTup (H : Hp) (b : Addr) : Prop := ∀ xs, H b ≠ some (.tup xs)
theorem NoTup.ne {H : Hp} {a b : Addr} {xs : List V} (h : NoTup H b) (e : H a = some (.tup xs)) : a ≠ b := fun z => h xs (z ▸ e)
theorem thg_fact {b a : Addr} {H : Hp} {f : Fc} (n : NoTup H b) (h : FactAt H a f) (g : GF f) : Thg b H (.ref a) := by
  obtain ⟨z, is, rfl, hz, hl, hi⟩ := g
  refine .tup h (n.ne h) (by simp only [List.length_map, List.length_cons]; omega) fun x hx => ?_
  obtain ⟨k, hk, rfl⟩ := List.mem_map.mp hx
  rcases List.mem_cons.mp hk with e | e
  · rw [e]; exact .str z (Nat.le_trans hz.2.1 (by decide))
  · obtain ⟨i, _, rfl⟩ := List.mem_map.mp e
    exact .int i
theorem factB_ok {a : Addr} {H : Hp} {f : Fc} (h : FactAt H a f) (g : GF f) : factB H (.ref a) = true := by
  obtain ⟨z, is, rfl, hz, hl, hi⟩ := g
  have e : tupOf H (.ref a) = some (.str z :: is.map V.int) := by
    rw [tupOf_at h, List.map_cons, List.map_map]
    rfl
  rw [factB_at e, List.length_map, decide_eq_true hl, all_ints hi]
  show (true && (wordB z && true)) = true
  rw [wordB_S.mpr hz]
  rfl
theorem pair_ref {α : Type} {R : Addr → α → Prop} {as : List Addr} {xs : List α} (h : Paired R as xs) {v : V} (hv : v ∈ as.map V.ref) : ∃ a x, v = .ref a ∧ R a x ∧ x ∈ xs := by
  obtain ⟨j, hj⟩ := List.getElem?_of_mem hv
  obtain ⟨a, ha, rfl⟩ := ref_at hj
  obtain ⟨x, hx, r⟩ := Paired.at' h ha
  exact ⟨a, x, rfl, r, List.mem_of_getElem? hx⟩
theorem thg_facts {b a : Addr} {H : Hp} {fs : List Fc} (n : NoTup H b) (h : FactsAt H a fs) (g : ∀ f ∈ fs, GF f) (hl : fs.length ≤ 5000) : Thg b H (.ref a) := by
  obtain ⟨as, ha, hp⟩ := h
  refine .tup ha (n.ne ha) (by rw [List.length_map, Paired.len hp]; exact hl) fun x hx => ?_
  obtain ⟨a', f, rfl, hf, hm⟩ := pair_ref hp hx
  exact thg_fact n hf (g f hm)
theorem factsB_ok {a : Addr} {H : Hp} {fs : List Fc} {m : Nat} (h : FactsAt H a fs) (g : ∀ f ∈ fs, GF f) (hl : fs.length ≤ m) : factsB H m (.ref a) = true := by
  obtain ⟨as, ha, hp⟩ := h
  rw [factsB_at (tupOf_at ha), List.length_map, Paired.len hp, decide_eq_true hl, Bool.true_and, List.all_eq_true]
  intro x hx
  obtain ⟨a', f, rfl, hf, hm⟩ := pair_ref hp hx
  exact factB_ok hf (g f hm)
theorem thg_clause {b a : Addr} {H : Hp} {c : Cz} (n : NoTup H b) (h : ClAt H a c) (g : GC c) : Thg b H (.ref a) := by
  obtain ⟨x, y, ha, hx, hy⟩ := h
  refine .tup ha (n.ne ha) (by show 2 ≤ 5000; decide) fun v hv => ?_
  simp only [List.mem_cons, List.not_mem_nil, or_false] at hv
  rcases hv with rfl | rfl
  · exact thg_facts n hx g.2.1 (Nat.le_trans g.1 (by decide))
  · exact thg_fact n hy g.2.2
theorem clauseB_ok {a : Addr} {H : Hp} {c : Cz} (h : ClAt H a c) (g : GC c) : clauseB H (.ref a) = true := by
  obtain ⟨x, y, ha, hx, hy⟩ := h
  rw [clauseB_at (tupOf_at ha), factsB_ok hx g.2.1 g.1, factB_ok hy g.2.2]
  rfl
theorem thg_cls {b a : Addr} {H : Hp} {cs : List Cz} (n : NoTup H b) (h : ClsAt H a cs) (g : ∀ c ∈ cs, GC c) (hl : cs.length ≤ 5000) : Thg b H (.ref a) := by
  obtain ⟨as, ha, hp⟩ := h
  refine .tup ha (n.ne ha) (by rw [List.length_map, Paired.len hp]; exact hl) fun x hx => ?_
  obtain ⟨a', f, rfl, hf, hm⟩ := pair_ref hp hx
  exact thg_clause n hf (g f hm)
theorem thg_grs {b a : Addr} {H : Hp} {gs : List (List Fc)} (n : NoTup H b) (h : GrsAt H a gs) (g : ∀ x ∈ gs, (∀ f ∈ x, GF f) ∧ x.length ≤ 5000) (hl : gs.length ≤ 5000) : Thg b H (.ref a) := by
  obtain ⟨as, ha, hp⟩ := h
  refine .tup ha (n.ne ha) (by rw [List.length_map, Paired.len hp]; exact hl) fun x hx => ?_
  obtain ⟨a', f, rfl, hf, hm⟩ := pair_ref hp hx
  exact thg_facts n hf (g f hm).1 (g f hm).2
theorem fault_ok {ca ga : Addr} {H : Hp} {cs : List Cz} {gs : List (List Fc)} (h1 : ClsAt H ca cs) (h2 : GrsAt H ga gs) (g : GR cs gs) : faultOf H (.ref ca) (.ref ga) = none := by
  obtain ⟨as, ha, hp⟩ := h1
  obtain ⟨bs, hb, hq⟩ := h2
  have lb := Paired.len hq
  have n1 : badI (clauseB H) (as.map V.ref) = none := badI_none.mpr fun x hx => by
    obtain ⟨a', f, rfl, hf, hm⟩ := pair_ref hp hx
    exact clauseB_ok hf (g.cl f hm)
  have n2 : badI (factsB H 5000) (bs.map V.ref) = none := badI_none.mpr fun x hx => by
    obtain ⟨a', f, rfl, hf, hm⟩ := pair_ref hq hx
    exact factsB_ok hf (g.gr f hm) (Nat.le_trans (g.nf f hm) (by decide))
  have := g.ng
  rw [fault_gn (tupOf_at ha) (tupOf_at hb) (by rw [List.length_map]; omega) n1, n2]
  rfl
/-! ### == of rules, of parts -/
def dC (c : Cz) : PyData := .tuple [.tuple (c.1.map dF), dF c.2]
def dCs (cs : List Cz) : PyData := .tuple (cs.map dC)
def dG (g : List Fc) : PyData := .tuple (g.map dF)
def dGs (gs : List (List Fc)) : PyData := .tuple (gs.map dG)
theorem eqv_fs (a b : List Fc) : PyData.eqv (dG a) (dG b) = decide (a = b) := by
  unfold dG
  rw [PyData.eqv]
  exact eqvAll_map eqv_p a b
theorem eqv_dC (a b : Cz) : PyData.eqv (dC a) (dC b) = decide (a = b) := by
  unfold dC
  rw [PyData.eqv, PyData.eqvAll, PyData.eqvAll, PyData.eqvAll]
  rw [show PyData.eqv (.tuple (a.1.map dF)) (.tuple (b.1.map dF)) = decide (a.1 = b.1) from eqv_fs _ _, show PyData.eqv (dF a.2) (dF b.2) = decide (a.2 = b.2) from eqv_p _ _, Bool.and_true, ← Bool.decide_and]
  exact decide_eq_decide.mpr ⟨fun h => Prod.ext h.1 h.2, fun h => by rw [h]; exact ⟨rfl, rfl⟩⟩
theorem eqv_cs (a b : List Cz) : PyData.eqv (dCs a) (dCs b) = decide (a = b) := by
  unfold dCs
  rw [PyData.eqv]
  exact eqvAll_map eqv_dC a b
theorem eqv_gs (a b : List (List Fc)) : PyData.eqv (dGs a) (dGs b) = decide (a = b) := by
  unfold dGs
  rw [PyData.eqv]
  exact eqvAll_map eqv_fs a b
theorem can_tup {α : Type} {f : α → PyData} {xs : List α} (h : ∀ x ∈ xs, PyData.canLay0 (f x) = true) : PyData.canLay0 (.tuple (xs.map f)) = true := by
  have := can_map h
  simpa only [PyData.canLay0] using this
theorem dep_tup {α : Type} {f : α → PyData} {n : Nat} (h : ∀ x, PyData.depth (f x) ≤ n) (xs : List α) : PyData.depth (.tuple (xs.map f)) ≤ n + 1 := by
  have := dep_map h xs
  simp only [PyData.depth]
  omega
theorem dep_dG (g : List Fc) : PyData.depth (dG g) ≤ 2 := dep_tup dep_dF g
theorem dep_dC (c : Cz) : PyData.depth (dC c) ≤ 3 := by
  have h1 := dep_dG c.1
  have h2 := dep_dF c.2
  have h3 : PyData.depth (.tuple (c.1.map dF)) ≤ 2 := h1
  simp only [dC, PyData.depth, PyData.depthAll] at h3 ⊢
  omega
theorem shaped_of {d : PyData} (h1 : PyData.canLay0 d = true) (h2 : PyData.depth d ≤ 40) : SeqAt.shaped d = true := by
  simp only [SeqAt.shaped, h1, Bool.true_and]
  exact decide_eq_true (by omega)
theorem can_dG {g : List Fc} (h : ∀ f ∈ g, GF f) : PyData.canLay0 (dG g) = true := can_tup fun f hf => can_dF (h f hf)
theorem can_dC {c : Cz} (h : (∀ f ∈ c.1, GF f) ∧ GF c.2) : PyData.canLay0 (dC c) = true := by
  have h1 : PyData.canLay0 (.tuple (c.1.map dF)) = true := can_dG h.1
  have h2 := can_dF h.2
  unfold dC
  simp only [PyData.canLay0, PyData.canLayAll0] at h1 h2 ⊢
  rw [h1, h2]
  rfl
theorem shaped_cs {cs : List Cz} {gs : List (List Fc)} (h : GQ cs gs) : SeqAt.shaped (dCs cs) = true := shaped_of (can_tup fun c hc => can_dC (h.cl c hc)) (Nat.le_trans (dep_tup dep_dC cs) (by decide))
theorem shaped_gs {cs : List Cz} {gs : List (List Fc)} (h : GQ cs gs) : SeqAt.shaped (dGs gs) = true := shaped_of (can_tup fun c hc => can_dG (h.gr c hc)) (Nat.le_trans (dep_tup dep_dG gs) (by decide))
theorem dpC {K : PySem.W.Frag} {H : Hp} {a : Addr} {c : Cz} (h : ClAt H a c) : Dp K H (.ref a) (dC c) := by
  obtain ⟨x, y, ha, ⟨as, hx, hp⟩, hy⟩ := h
  exact .tup (.of ha) (.cons (.tup (.of hx) (dpFs hp)) (.cons (dpF hy) .nil))
theorem dpCs {K : PySem.W.Frag} {H : Hp} {a : Addr} {cs : List Cz} (h : ClsAt H a cs) : Dp K H (.ref a) (dCs cs) := by
  obtain ⟨as, ha, hp⟩ := h
  refine .tup (.of ha) ?_
  clear ha
  induction hp with
  | nil => exact .nil
  | cons r _ ih => exact .cons (dpC r) ih
theorem dpGs {K : PySem.W.Frag} {H : Hp} {a : Addr} {gs : List (List Fc)} (h : GrsAt H a gs) : Dp K H (.ref a) (dGs gs) := by
  obtain ⟨as, ha, hp⟩ := h
  refine .tup (.of ha) ?_
  clear ha
  induction hp with
  | nil => exact .nil
  | cons r _ ih =>
    obtain ⟨bs, hb, hq⟩ := r
    exact .cons (.tup (.of hb) (dpFs hq)) ih
/-- the parts of a rule, as one thing -/
def dP (cs : List Cz) (gs : List (List Fc)) : PyData := .tuple [dCs cs, dGs gs]
theorem dpP {K : PySem.W.Frag} {H : Hp} {p ca ga : Addr} {cs : List Cz} {gs : List (List Fc)} (h : H p = some (.tup [.ref ca, .ref ga])) (h1 : ClsAt H ca cs) (h2 : GrsAt H ga gs) : Dp K H (.ref p) (dP cs gs) := .tup (.of h) (.cons (dpCs h1) (.cons (dpGs h2) .nil))
theorem shaped_P {cs : List Cz} {gs : List (List Fc)} (h : GQ cs gs) : SeqAt.shaped (dP cs gs) = true := by
  have h1 : PyData.canLay0 (dCs cs) = true := can_tup fun c hc => can_dC (h.cl c hc)
  have h2 : PyData.canLay0 (dGs gs) = true := can_tup fun c hc => can_dG (h.gr c hc)
  have d1 : PyData.depth (dCs cs) ≤ 4 := dep_tup dep_dC cs
  have d2 : PyData.depth (dGs gs) ≤ 3 := dep_tup dep_dG gs
  refine shaped_of ?_ ?_
  · unfold dP
    simp only [PyData.canLay0, PyData.canLayAll0, h1, h2, Bool.and_self]
  · simp only [dP, PyData.depth, PyData.depthAll]
    omega
theorem eqv_P (cs cs2 : List Cz) (gs gs2 : List (List Fc)) : PyData.eqv (dP cs gs) (dP cs2 gs2) = decide (cs = cs2 ∧ gs = gs2) := by
  unfold dP
  rw [PyData.eqv, PyData.eqvAll, PyData.eqvAll, PyData.eqvAll, eqv_cs, eqv_gs, Bool.and_true, ← Bool.decide_and]
/-- what isinstance asks of the class -/
structure RuI (K : PySem.W.Frag) (C : Addr) : Prop where
  ha : PySem.W.findIn K (.ref C) "__class__" = some (some (.builtin "object.__class__"))
  hn : PySem.W.specialIn K (.builtin "object.__class__") "__get__" = some (some (.builtin "getset_descriptor.__get__"))
  htk : PySem.W.takesIn K (.builtin "object.__class__") = some true
  hm : PySem.W.mroIn K C (.type "object") = some true
  self : PySem.W.kitOne K (.ref C) (.ref C) = some true
def spEq (K : PySem.W.Frag) (C : Addr) : Sp := fun vs H Q _ => ∃ x dx ca ga cs gs y, vs = [.ref x, y] ∧ RuleAt H C x dx ca ga cs gs ∧ GQ cs gs ∧
  ((∃ z dz ca2 ga2 cs2 gs2, y = .ref z ∧ RuleAt H C z dz ca2 ga2 cs2 gs2 ∧ GQ cs2 gs2 ∧ Q (.bl (decide (cs = cs2 ∧ gs = gs2))) H) ∨ ∃ t, TyX K H y t ∧ PySem.W.kitOne K t (.ref C) = some false ∧ Q (.bl false) H)
section
variable {P : Program} {w : World} {K : PySem.W.Frag} {mg : Str → Option Value} {base : Heap} {C : Addr}
theorem scEq : FnScope ["self", "other"] ["self", "other"] (defScope (mR 1)) := ⟨rfl, rfl, rfl, by decide +kernel, rfl, by decide +kernel, by decide +kernel⟩
theorem ok_eq {f : Addr} {fd : FuncData} {k : Nat} (F : Fun K "__eq__" "Rule.__eq__" (mR 1) f fd) (T : Tx mg) (c : RuC K C) (ci : RuI K C) (gB : mg "Rule" = some (.ref C)) : FnOk P w K mg base CX0 (k + 1) f fd ["self", "other"] (spEq K C) := by
  refine F.ok scEq (fun vs H Q E h => ?_) (fun cdv A outer s H vs Q E hr h => ?_)
  · obtain ⟨x, dx, ca, ga, cs, gs, y, rfl, _⟩ := h
    rfl
  · obtain ⟨x, dx, ca, ga, cs, gs, y, rfl, ⟨hx, hc, hg⟩, gq, q⟩ := h
    refine ⟨_, (pss_one (ps_ret (pe_and (pe_callB call_isi (by rfl) T.isi (by decide +kernel) (pa_cons (pv 1) (pa_cons (pe_glob (v := .ref C) (by rfl) gB rfl) pa_nil)))
        (pe_and (pe_cmpR (op_eqD hr.units) (pe_fld (pv 0) rfl) (pe_fld (pv 1) rfl) (nomark _)) (pe_one (pe_cmpR (op_eqD hr.units) (pe_fld (pv 0) rfl) (pe_fld (pv 1) rfl) (nomark _))))))), ?_⟩
    rcases q with ⟨z, dz, ca2, ga2, cs2, gs2, rfl, ⟨hz, hc2, hg2⟩, gq2, q⟩ | ⟨t, ht, hk, q⟩
    · refine ⟨_, rfl, _, _, _, _, true, rfl, .own C, .base (.ins hz c.cls ci.ha ci.hn ci.htk ci.hm), ci.self, _, rfl, iteT ?_⟩
      refine ⟨_, rfl, _, _, _, _, _, rfl, hx, c.cls, c.na _ (by simp), rfl, _, rfl, _, _, _, _, _, rfl, hz, c.cls, c.na _ (by simp), rfl, ?_⟩
      refine ⟨_, _, dpCs hc, dpCs hc2, shaped_cs gq, shaped_cs gq2, _, rfl, ?_⟩
      rw [eqv_cs]
      by_cases h1 : cs = cs2
      · rw [decide_eq_true h1]
        refine iteT ?_
        refine ⟨_, rfl, _, _, _, _, _, rfl, hx, c.cls, c.na _ (by simp), rfl, _, rfl, _, _, _, _, _, rfl, hz, c.cls, c.na _ (by simp), rfl, ?_⟩
        refine ⟨_, _, dpGs hg, dpGs hg2, shaped_gs gq, shaped_gs gq2, ?_⟩
        rw [eqv_gs]
        have e : decide (cs = cs2 ∧ gs = gs2) = decide (gs = gs2) := decide_eq_decide.mpr ⟨fun h => h.2, fun h => ⟨h1, h⟩⟩
        rw [e] at q
        exact q
      · rw [decide_eq_false h1]
        rw [decide_eq_false (fun z => h1 z.1)] at q
        exact iteF q
    · exact ⟨_, rfl, _, _, _, _, false, rfl, .own C, ht, hk, _, rfl, iteF q⟩
end
end L2.My
end
section
set_option Elab.async false
set_option linter.all false
set_option maxRecDepth 100000
set_option maxHeartbeats 4000000
/-! A comprehension of a dict, keys tuples, with two for. -/
namespace L2.My
open PySem PySem.Spec PyProof.Rows
section
variable {prog : Program} {w : World} {A : Around} {R : Result → Shared → Prop} {s : Shared} {kx vx t0 i0 t1 i1 : PySem.Expr} {ifs0 ifs1 : List PySem.Expr} {scope : Scope} {pos : Pos} {it : Value} {D : Addr} {env : Env}
theorem turnD_out (kx vx t0 i0 t1 i1 : PySem.Expr) (ifs0 ifs1 : List PySem.Expr) (scope : Scope) (pos : Pos) (it : Value) (D : Addr) (env : Env) :
    compTurn (.DictComp kx vx [⟨t0, i0, ifs0, 0⟩, ⟨t1, i1, ifs1, 0⟩] scope pos) 0 it (.ref D) env = (do
      standAt i0.pos
      match ← pyNext it with
      | none => pure (Fin.done Flow.next)
      | some v => do
        letOwnedTupleGo t0 it v
        assign t0 env v
        let mut ok := true
        for c in ifs0 do
          if ok then ok ← PySem.isTrue c env (eval c env)
        if ok then do
          let x ← eval i1 env
          standAt i1.pos
          let x ← foldedSetIterable i1 env x
          let it' ← holding [x] (pyIter x)
          let _ ← runOwn (Code.compStart (.DictComp kx vx [⟨t0, i0, ifs0, 0⟩, ⟨t1, i1, ifs1, 0⟩] scope pos) 1 it' (.ref D) env) env
        again (Code.compLoop (.DictComp kx vx [⟨t0, i0, ifs0, 0⟩, ⟨t1, i1, ifs1, 0⟩] scope pos) 0 it (.ref D) env)) := rfl
theorem turnD_in (kx vx t0 i0 t1 i1 : PySem.Expr) (ifs0 ifs1 : List PySem.Expr) (scope : Scope) (pos : Pos) (it : Value) (D : Addr) (env : Env) :
    compTurn (.DictComp kx vx [⟨t0, i0, ifs0, 0⟩, ⟨t1, i1, ifs1, 0⟩] scope pos) 1 it (.ref D) env = (do
      standAt i1.pos
      match ← pyNext it with
      | none => pure (Fin.done Flow.next)
      | some v => do
        letOwnedTupleGo t1 it v
        assign t1 env v
        let mut ok := true
        for c in ifs1 do
          if ok then ok ← PySem.isTrue c env (eval c env)
        if ok then
          (show Sem Unit from do
            let kv ← eval kx env
            let vv ← holding [kv] (eval vx env)
            standAt { kx.pos with endLine := vx.pos.endLine, endCol := vx.pos.endCol }
            holding [kv, vv] (dictSet D kv vv))
        again (Code.compLoop (.DictComp kx vx [⟨t0, i0, ifs0, 0⟩, ⟨t1, i1, ifs1, 0⟩] scope pos) 1 it (.ref D) env)) := rfl
theorem loopD_in (I : Nat → Shared → Prop)
    (turn : ∀ n s, I n s → wpAny (model prog w) A (pyNext it) (fun r s₁ => match r with
      | none => R (.ok .next) s₁
      | some v => wpAny (model prog w) A (letOwnedTupleGo t1 it v) (fun _ s₁' => wpAny (model prog w) A (assign t1 env v) (fun _ s₂ =>
          wpAny (model prog w) A (forIn ifs1 true fun c r => if r = true then do
              let ok ← PySem.isTrue c env (eval c env)
              pure (ForInStep.yield ok) else pure (ForInStep.yield r)) (fun ok s₃ =>
            if ok = true then wpAny (model prog w) A (eval kx env) (fun kv s₄ => wpAny (model prog w) A (eval vx env) (fun vv s₅ => wpAny (model prog w) A (dictSet D kv vv) (fun _ s₆ => ∃ m, m < n ∧ I m s₆)
                (notedBy (model prog w) A env fun e s' => R (.error e) s') s₅) (notedBy (model prog w) A env fun e s' => R (.error e) s') s₄) (notedBy (model prog w) A env fun e s' => R (.error e) s') s₃
            else ∃ m, m < n ∧ I m s₃) (notedBy (model prog w) A env fun e s' => R (.error e) s') s₂) (notedBy (model prog w) A env fun e s' => R (.error e) s') s₁') (notedBy (model prog w) A env fun e s' => R (.error e) s') s₁)
      (notedBy (model prog w) A env fun e s' => R (.error e) s') s) (n : Nat) (h : I n s) :
    codeAny (model prog w) A (.compLoop (.DictComp kx vx [⟨t0, i0, ifs0, 0⟩, ⟨t1, i1, ifs1, 0⟩] scope pos) 1 it (.ref D) env) R s := by
  refine codeAny_loop rfl I (fun n s hI => ?_) n h
  refine wpAny_noted ?_
  show wpAny _ _ (compTurn _ _ _ _ _) _ _ _
  rw [turnD_in]
  refine wpAny_bind (wpAny_standAt (wpAny_bind (wpAny_mono (turn n s hI) (fun r s₁ h₁ => ?_) fun _ _ e => e)))
  cases r with
  | none => exact wpAny_pure h₁
  | some v =>
    refine wpAny_bind (wpAny_mono h₁ (fun _ s₁' h₁' => wpAny_bind (wpAny_mono h₁' (fun _ s₂ h₂ => wpAny_bind (wpAny_mono h₂ (fun ok s₃ h₃ => ?_) fun _ _ e => e)) fun _ _ e => e)) fun _ _ e => e)
    cases ok with
    | false => exact wpAny_pure ⟨rfl, h₃⟩
    | true =>
      refine wpAny_bind (wpAny_bind (wpAny_mono h₃ (fun kv s₄ h₄ => wpAny_bind (wpAny_holding (wpAny_mono h₄ (fun vv s₅ h₅ => wpAny_bind (wpAny_standAt (wpAny_holding (wpAny_mono h₅ (fun _ s₆ h₆ => wpAny_pure ⟨rfl, h₆⟩) fun _ _ e => e)))) fun _ _ e => e))) fun _ _ e => e))
theorem startD (h1 : codeAny (model prog w) A (.compLoop (.DictComp kx vx [⟨t0, i0, ifs0, 0⟩, ⟨t1, i1, ifs1, 0⟩] scope pos) 1 it (.ref D) env) R s)
    (h2 : wpAny (model prog w) A (pyIter it) (fun it' s' => codeAny (model prog w) A (.compLoop (.DictComp kx vx [⟨t0, i0, ifs0, 0⟩, ⟨t1, i1, ifs1, 0⟩] scope pos) 1 it' (.ref D) env) R s') (notedBy (model prog w) A env fun x s' => R (.error x) s') s) :
    codeAny (model prog w) A (.compStart (.DictComp kx vx [⟨t0, i0, ifs0, 0⟩, ⟨t1, i1, ifs1, 0⟩] scope pos) 1 it (.ref D) env) R s := by
  refine codeAny_of_tree ?_
  refine wpAny_notedAt ?_
  show wpAny _ _ (compStart _ _ _ _ _) _ _ _
  unfold compStart
  show wpAny _ _ (if (false : Bool) = true then _ else _) _ _ _
  rw [if_neg Bool.false_ne_true]
  refine wpAny_bind (wpAny_askSetting (wpAny_ite ?_))
  split
  · exact wpAny_pure ⟨rfl, h1⟩
  · refine wpAny_bind (wpAny_rule ?_)
    show wpAny _ _ (standAt _ >>= _) _ _ _
    refine wpAny_bind (wpAny_standAt (wpAny_bind (wpAny_mono h2 (fun it' s' h' => wpAny_pure ⟨rfl, h'⟩) fun _ _ e => e)))
theorem loopD_out (hs : ∀ x, foldedSetIterable i1 env x = pure x) (I : Nat → Shared → Prop)
    (turn : ∀ n s, I n s → wpAny (model prog w) A (pyNext it) (fun r s₁ => match r with
      | none => R (.ok .next) s₁
      | some v => wpAny (model prog w) A (letOwnedTupleGo t0 it v) (fun _ s₁' => wpAny (model prog w) A (assign t0 env v) (fun _ s₂ =>
          wpAny (model prog w) A (forIn ifs0 true fun c r => if r = true then do
              let ok ← PySem.isTrue c env (eval c env)
              pure (ForInStep.yield ok) else pure (ForInStep.yield r)) (fun ok s₃ =>
            if ok = true then wpAny (model prog w) A (eval i1 env) (fun x s₄ => wpAny (model prog w) A (pyIter x) (fun it1 s₅ =>
                codeAny (model prog w) A (.compStart (.DictComp kx vx [⟨t0, i0, ifs0, 0⟩, ⟨t1, i1, ifs1, 0⟩] scope pos) 1 it1 (.ref D) env) (fun r s' => match r with
                  | .ok _ => ∃ m, m < n ∧ I m s'
                  | .error _ => False) s₅) (notedBy (model prog w) A env fun e s' => R (.error e) s') s₄) (notedBy (model prog w) A env fun e s' => R (.error e) s') s₃
            else ∃ m, m < n ∧ I m s₃) (notedBy (model prog w) A env fun e s' => R (.error e) s') s₂) (notedBy (model prog w) A env fun e s' => R (.error e) s') s₁') (notedBy (model prog w) A env fun e s' => R (.error e) s') s₁)
      (notedBy (model prog w) A env fun e s' => R (.error e) s') s) (n : Nat) (h : I n s) :
    codeAny (model prog w) A (.compLoop (.DictComp kx vx [⟨t0, i0, ifs0, 0⟩, ⟨t1, i1, ifs1, 0⟩] scope pos) 0 it (.ref D) env) R s := by
  refine codeAny_loop rfl I (fun n s hI => ?_) n h
  refine wpAny_noted ?_
  show wpAny _ _ (compTurn _ _ _ _ _) _ _ _
  rw [turnD_out]
  refine wpAny_bind (wpAny_standAt (wpAny_bind (wpAny_mono (turn n s hI) (fun r s₁ h₁ => ?_) fun _ _ e => e)))
  cases r with
  | none => exact wpAny_pure h₁
  | some v =>
    refine wpAny_bind (wpAny_mono h₁ (fun _ s₁' h₁' => wpAny_bind (wpAny_mono h₁' (fun _ s₂ h₂ => wpAny_bind (wpAny_mono h₂ (fun ok s₃ h₃ => ?_) fun _ _ e => e)) fun _ _ e => e)) fun _ _ e => e)
    cases ok with
    | false => exact wpAny_pure ⟨rfl, h₃⟩
    | true =>
      refine wpAny_bind (wpAny_mono h₃ (fun x s₄ h₄ => ?_) fun _ _ e => e)
      refine wpAny_bind (wpAny_standAt ?_)
      refine wpAny_bind (wpAny_of_eq (hs x) ?_)
      refine wpAny_bind (wpAny_holding (wpAny_mono h₄ (fun it1 s₅ h₅ => ?_) fun _ _ e => e))
      refine wpAny_bind (wpAny_runOwn ?_ (fun z => nomatch z))
      rw [Around.mark_none]
      refine codeAny_mono h₅ fun r s' hr => ?_
      cases r with
      | ok f => exact wpAny_pure ⟨rfl, hr⟩
      | error e => exact False.elim hr
end
end L2.My
end
section
set_option Elab.async false
set_option linter.all false
set_option maxRecDepth 100000
set_option maxHeartbeats 4000000
namespace L2.My
open PySem PySem.Spec PyProof.Rows
theorem wipe_keep {σ : St} {vs : List Nat} {j : Nat} {v : V} (h : j ∉ vs) (e : σ[j]? = some (some v)) : (wipe σ vs)[j]? = some (some v) := by
  induction vs generalizing σ with
  | nil => exact e
  | cons i r ih =>
    have h1 : i ≠ j := fun z => h (by rw [z]; exact List.mem_cons_self)
    have h2 : j ∉ r := fun z => h (List.mem_cons_of_mem _ z)
    first
      | (show (wipe (σ.set i none) r)[j]? = _
         exact ih h2 (by rw [List.getElem?_set_ne h1]; exact e))
      | (show ((wipe σ r).set i none)[j]? = _
         rw [List.getElem?_set_ne h1]
         exact ih h2 e)
def tDcT2 (wi : TI) (g : TG) (tt : TT) (wi1 : TI) (g1 : TG) (tt1 : TT) (tk tv : TE) (vs vs1 : List Nat) : TE := fun σ H Q => wi σ H fun J H1 => ∀ D, H1 D = none → ∃ W : Nat → Nat → Hp → Prop, (∃ m, W 0 m (upd H1 D (.dT []))) ∧ ∀ i m H, W i m H →
  (J.stop i H ∧ Q (.ref D) H) ∨ (J.go i H ∧ ∃ Nx : Hp → Prop, (∀ H', Nx H' → ∃ m', m' < m ∧ W (i + 1) m' H') ∧ ∀ x H', J.yld i H x H' → g x (wipe σ vs) H' fun σ2 H2 => wipe σ2 vs = wipe σ vs ∧ tt σ2 H2 fun b H3 =>
    if b = true then wi1 σ2 H3 fun J1 H4 => ∃ W1 : Nat → Nat → Hp → Prop, (∃ k, W1 0 k H4) ∧ ∀ j k H, W1 j k H →
      (J1.stop j H ∧ Nx H) ∨ (J1.go j H ∧ ∃ Nx1 : Hp → Prop, (∀ H', Nx1 H' → ∃ k', k' < k ∧ W1 (j + 1) k' H') ∧ ∀ x H', J1.yld j H x H' → g1 x (wipe σ2 vs1) H' fun σ3 H5 => wipe σ3 vs1 = wipe σ2 vs1 ∧ tt1 σ3 H5 fun b H6 =>
        if b = true then tk σ3 H6 fun y H7 => tv σ3 H7 fun z H8 => ∃ kvs k b, y = .ref b ∧ H8 D = some (.dT kvs) ∧ H8 b = some (.tup (k.map kV)) ∧ kvs.length < sizeLine ∧ Nx1 (upd H8 D (.dT (putK kvs k z))) else Nx1 H6) else Nx H3)
section
variable {X : Cx}
theorem dc_coreT2 {pins : List (Addr × Obj)} {s : Shared} {σ : St} {H : Hp} {Q : VK} {kx vx tg iter tg1 iter1 : Expr} {ifs ifs1 : List Expr} {scope : Scope} {own : List (Str × Nat)} {vs1 : List Nat} {pos pos' : Pos} {wi wi1 : TI} {g g1 : TG} {tt tt1 : TT} {tk tv : TE} {use : Option (Value → Sem Unit)} {Qf : Value → Shared → Prop}
    (hu : X.A.units + 2 < cLine) (hc : X.calm = true) (hN : X.N.Nodup) (I : Inv X pins σ H s) (hi : PI X tg iter wi) (ok : BlkOk X.N X.env.scope scope own) (hv : ∀ i ∈ vs1, i ∈ own.map (·.2))
    (hg : ∀ (s : Shared) (H : Hp) (C : Addr) (cl : List (Str × Addr)) (fp : List Addr), PG (X.blk s H scope (compEnvC scope cl C X.env) fp) tg g) (ht : ∀ (s : Shared) (H : Hp) (C : Addr) (cl : List (Str × Addr)) (fp : List Addr), PTs (X.blk s H scope (compEnvC scope cl C X.env) fp) ifs tt)
    (hi1 : ∀ (s : Shared) (H : Hp) (C : Addr) (cl : List (Str × Addr)) (fp : List Addr), PI (X.blk s H scope (compEnvC scope cl C X.env) fp) tg1 iter1 wi1)
    (hg1 : ∀ (s : Shared) (H : Hp) (C : Addr) (cl : List (Str × Addr)) (fp : List Addr), PG (X.blk s H scope (compEnvC scope cl C X.env) fp) tg1 g1) (ht1 : ∀ (s : Shared) (H : Hp) (C : Addr) (cl : List (Str × Addr)) (fp : List Addr), PTs (X.blk s H scope (compEnvC scope cl C X.env) fp) ifs1 tt1)
    (hk : ∀ (s : Shared) (H : Hp) (C : Addr) (cl : List (Str × Addr)) (fp : List Addr), PE (X.blk s H scope (compEnvC scope cl C X.env) fp) kx tk)
    (he : ∀ (s : Shared) (H : Hp) (C : Addr) (cl : List (Str × Addr)) (fp : List Addr), PE (X.blk s H scope (compEnvC scope cl C X.env) fp) vx tv) (hs : ∀ x, foldedSetIterable iter X.env x = pure x) (hs1 : ∀ (env : Env) (x : Value), foldedSetIterable iter1 env x = pure x)
    (h : tDcT2 wi g tt wi1 g1 tt1 tk tv (own.map (·.2)) vs1 σ H Q)
    (hRR : ∀ D C s' m H', Inv X pins σ H' s' → Q (.ref D) H' → s'.heap.Ns C m → FpOk X pins H' C → compPost (model X.prog X.w) X.A X.xe use Qf (.ref D) C (.ok .next) s') :
    wpAny (model X.prog X.w) X.A (comprehension (.DictComp kx vx [⟨tg, iter, ifs, 0⟩, ⟨tg1, iter1, ifs1, 0⟩] scope pos) scope X.env pos' newDict false (eval iter X.env) use) Qf X.xe s := by
  have hfree : ∀ y ∈ scope.names, y.2 = .free → ∃ c, X.env.cells.lookup y.1 = some c := fun y hy e => by
    rcases ok.free y hy e with k | k
    · exact I.ok.has _ (.inl k)
    · exact I.ok.has _ (.inr k)
  refine wpAny_comprehension_free (use := use) rfl hs (closure_ok hfree) ok.kind (fun y hy e => by rw [ok.uniq y hy, e])
    (thn (hi.run pins s σ H _ I h) fun xv s1 hx => thn hx fun itv s2 h2 => ?_)
  obtain ⟨it, fp, tn, J, H2, e, I2, T, st2, f2, q⟩ := h2
  subst e
  refine wpAny_newObj_type (newEnv_comp ?_)
  generalize hD : s2.heap.objs.size = D
  have hDn : H2 D = none := I2.hok.fresh (Nat.le_of_eq hD)
  obtain ⟨W, ⟨m0, w0⟩, turn⟩ := q D hDn
  generalize hs3 : ({ s2 with heap := s2.heap.push { cls := .type "dict", data := .dict #[] } } : Shared) = s3
  have I3 : Inv X pins σ (upd H2 D (.dT [])) s3 := by
    rw [← hs3]
    refine I2.laid (t' := s2.toks) (fun b o e => Heap.get?_push_of_some _ e) (Nat.le_of_eq hD) ?_
    rw [← hD]
    exact dt_empty s2.heap I2.big
  have h3 : s3.heap = s2.heap.push { cls := .type "dict", data := .dict #[] } := by rw [← hs3]
  have sz : ∀ b ∈ fp, b < s2.heap.objs.size := fun b hb => by
    obtain ⟨o, e, _⟩ := T.obj _ _ st2 b hb
    exact Heap.lt_size e
  have f3 : ∀ b ∈ fp, FpOk X pins (upd H2 D (.dT [])) b ∧ b < s3.heap.objs.size := fun b hb => by
    have hlt := sz b hb
    refine ⟨⟨?_, (f2 b hb).2⟩, by rw [h3, Heap.size_push]; exact Nat.lt_succ_of_lt hlt⟩
    rw [upd_ne (by rw [← hD]; exact Nat.ne_of_lt hlt)]
    exact (f2 b hb).1
  have st3 : tn 0 s3.heap := T.keep _ _ _ st2 fun b _ o e => by rw [h3]; exact Heap.get?_push_of_some _ e
  have I4 := block_start I3 ok hN f3
  have pg := hg s3 (upd H2 D (.dT [])) s3.heap.objs.size (cellsFrom (s3.heap.objs.size + 1) scope.names (cloFrom X.env.cells scope.names [])) fp
  have pt := ht s3 (upd H2 D (.dT [])) s3.heap.objs.size (cellsFrom (s3.heap.objs.size + 1) scope.names (cloFrom X.env.cells scope.names [])) fp
  have pi1 := hi1 s3 (upd H2 D (.dT [])) s3.heap.objs.size (cellsFrom (s3.heap.objs.size + 1) scope.names (cloFrom X.env.cells scope.names [])) fp
  have pg1 := hg1 s3 (upd H2 D (.dT [])) s3.heap.objs.size (cellsFrom (s3.heap.objs.size + 1) scope.names (cloFrom X.env.cells scope.names [])) fp
  have pt1 := ht1 s3 (upd H2 D (.dT [])) s3.heap.objs.size (cellsFrom (s3.heap.objs.size + 1) scope.names (cloFrom X.env.cells scope.names [])) fp
  have pk := hk s3 (upd H2 D (.dT [])) s3.heap.objs.size (cellsFrom (s3.heap.objs.size + 1) scope.names (cloFrom X.env.cells scope.names [])) fp
  have pe := he s3 (upd H2 D (.dT [])) s3.heap.objs.size (cellsFrom (s3.heap.objs.size + 1) scope.names (cloFrom X.env.cells scope.names [])) fp
  show codeAny _ _ (.compStart (.DictComp kx vx [⟨tg, iter, ifs, 0⟩, ⟨tg1, iter1, ifs1, 0⟩] scope pos) 0 (.ref it) (.ref D) (compEnvC scope (cellsFrom (s3.heap.objs.size + 1) scope.names (cloFrom X.env.cells scope.names [])) s3.heap.objs.size X.env)) (compPost (model X.prog X.w) X.A X.xe use Qf (.ref D) s3.heap.objs.size) { s3 with heap := pushCells (s3.heap.push { cls := .type "dict", data := .dict #[] }) scope.names }
  have nfp : ∀ b ∈ fp, (upd H2 D (.dT [])) b = none := fun b hb => (f3 b hb).1.1
  generalize hce : compEnvC scope (cellsFrom (s3.heap.objs.size + 1) scope.names (cloFrom X.env.cells scope.names [])) s3.heap.objs.size X.env = ce at I4 pg pt pi1 pg1 pt1 pk pe ⊢
  have cL : ce.locals = s3.heap.objs.size := by subst hce; rfl
  generalize hH3 : upd H2 D (.dT []) = H3 at I3 I4 pg pt pi1 pg1 pt1 pk pe w0 nfp f3
  generalize hs4 : ({ s3 with heap := pushCells (s3.heap.push { cls := .type "dict", data := .dict #[] }) scope.names } : Shared) = s4 at I4 ⊢
  have st4 : tn 0 s4.heap := T.keep _ _ _ st3 fun b _ o e => by rw [← hs4]; exact pushCells_keeps _ _ _ _ (Heap.get?_push_of_some _ e)
  have stat : ∀ {σ' : St} {H' : Hp} {s' : Shared}, Inv (X.blk s3 H3 scope ce fp) [] σ' H' s' → (∀ b ∈ fp, H' b = none) → ∀ b ∈ fp, FpOk (X.blk s3 H3 scope ce fp) [] H' b := fun {σ' H' s'} I' hn b hb =>
    ⟨hn b hb, (I'.ok.exf b hb).1, I'.ok.exfs b hb, .inl hb, fun x c e => (I'.ok.exf b hb).2 x c e, fun p hp => absurd (show p ∈ ([] : List (Addr × Obj)) ++ [] from hp) (by simp)⟩
  have loop : codeAny (model X.prog X.w) X.A (.compLoop (.DictComp kx vx [⟨tg, iter, ifs, 0⟩, ⟨tg1, iter1, ifs1, 0⟩] scope pos) 0 (.ref it) (.ref D) ce) (compPost (model X.prog X.w) X.A X.xe use Qf (.ref D) s3.heap.objs.size) s4 := by
    refine loopD_out (hs1 ce) (fun n s' => ∃ i H', Inv (X.blk s3 H3 scope ce fp) [] (wipe σ (own.map (·.2))) H' s' ∧ tn i s'.heap ∧ (∀ b ∈ fp, H' b = none) ∧ W i n H') ?_ m0 ⟨0, H3, I4, st4, nfp, w0⟩
    rintro n s5 ⟨i, H5, I5, st5, n5, w5⟩
    rcases turn i n H5 w5 with ⟨stop, qq⟩ | ⟨go, Nx, hNx, step⟩
    · have td := T.done (X.blk s3 H3 scope ce fp) rfl rfl rfl hc i [] s5 _ H5 (fun _ _ => False) I5 (stat I5 n5) st5 stop
      refine thnF td fun r s6 ⟨hr, I6⟩ => ?_
      subst hr
      have I7 : Inv X pins σ H5 s6 := I3.call' (ch := fp) I6.os I6.base I6.hok I6.bare fun b hb => ⟨(f3 b hb).1.2.2.2.1, (f3 b hb).1.2.1, (f3 b hb).1.2.2.2.2.1, (f3 b hb).1.2.2.2.2.2⟩
      have nC : H5 s3.heap.objs.size = none := by
        have z : H5 ce.locals = none := I6.free
        rw [cL] at z
        exact z
      obtain ⟨m, hn, _⟩ := I6.loc
      have hn : s6.heap.Ns ce.locals m := hn
      rw [cL] at hn
      exact hRR D s3.heap.objs.size s6 m H5 I7 qq hn (I3.fpOk (Nat.le_refl _) nC)
    · have ti := T.item (X.blk s3 H3 scope ce fp) rfl rfl rfl hc i [] s5 _ H5 (fun _ _ => False) I5 (stat I5 n5) st5 go
      refine thnF ti fun r s6 ⟨u, hr, h6⟩ => ?_
      subst hr
      refine thnF h6 fun _ s7 ⟨x, H7, I7, r7, y7, st7, n7⟩ => ?_
      have I7' := I7.pinned (stat I7 n7) (T.obj _ _ st7)
      refine thnF (pg.run _ s7 _ H7 x u _ I7' r7 (step x H7 y7)) fun _ s8 ⟨σ8, H8, I8, hw8, q8⟩ => ?_
      refine thnF (pt.run _ s8 σ8 H8 _ I8 q8) fun b s9 ⟨H9, I9, q9⟩ => ?_
      have fin : ∀ {σ' : St} {s' : Shared} {H' : Hp}, Inv (X.blk s3 H3 scope ce fp) ([] ++ pinsAt fp s7.heap) σ' H' s' → σ'.length = σ8.length → (∀ (j : Nat) (v : V), j ∉ own.map (·.2) → σ8[j]? = some (some v) → σ'[j]? = some (some v)) → Nx H' → ∃ m, m < n ∧ ∃ i H', Inv (X.blk s3 H3 scope ce fp) [] (wipe σ (own.map (·.2))) H' s' ∧ tn i s'.heap ∧ (∀ b ∈ fp, H' b = none) ∧ W i m H' := fun {σ' s' H'} I' hl' hk' nx => by
        obtain ⟨m', hm, w'⟩ := hNx H' nx
        have pin' : ∀ b ∈ fp, ∀ o, s7.heap.get? b = some o → s'.heap.get? b = some o ∧ H' b = none := fun b hb o e =>
          let z := I'.pin (b, o) (List.mem_append_right _ (List.mem_append_right _ (mem_pinsAt hb e)))
          ⟨z.1, z.2.1⟩
        have hl : (wipe σ (own.map (·.2))).length = σ'.length := by rw [hl', ← hw8, wipe_length]
        refine ⟨m', hm, i + 1, H', (I'.unpinned (pins := [])).weak hl (fun j v e => ?_), T.keep _ _ _ st7 fun b hb o e => (pin' b hb o e).1, fun b hb => ?_, w'⟩
        · rw [← hw8] at e
          exact hk' j v (wipe_some e).2 (wipe_some e).1
        · obtain ⟨o, e, _⟩ := T.obj _ _ st7 b hb
          exact (pin' b hb o e).2
      cases b with
      | false =>
        simp only [Bool.false_eq_true, if_false] at q9 ⊢
        exact fin I9 rfl (fun _ _ _ e => e) q9
      | true =>
        simp only [if_true] at q9 ⊢
        generalize hp1 : ([] ++ pinsAt fp s7.heap : List (Addr × Obj)) = pins1 at I9 fin
        refine thnF (pi1.run pins1 s9 σ8 H9 _ I9 q9) fun xv s10 hx => thnF hx fun itv s11 h11 => ?_
        obtain ⟨it1, fp1, tn1, J1, H11, e, I11, T1, st11, f11, W1, ⟨k0, w10⟩, turn1⟩ := h11
        subst e
        have stat1 : ∀ {H' : Hp}, (∀ b ∈ fp1, H' b = none) → ∀ b ∈ fp1, FpOk (X.blk s3 H3 scope ce fp) pins1 H' b := fun {H'} hn b hb => ⟨hn b hb, (f11 b hb).2⟩
        have inner : codeAny (model X.prog X.w) X.A (.compLoop (.DictComp kx vx [⟨tg, iter, ifs, 0⟩, ⟨tg1, iter1, ifs1, 0⟩] scope pos) 1 (.ref it1) (.ref D) ce) (fun r s' => match r with
            | .ok _ => ∃ m, m < n ∧ ∃ i H', Inv (X.blk s3 H3 scope ce fp) [] (wipe σ (own.map (·.2))) H' s' ∧ tn i s'.heap ∧ (∀ b ∈ fp, H' b = none) ∧ W i m H'
            | .error _ => False) s11 := by
          refine loopD_in (fun k s' => ∃ j H', Inv (X.blk s3 H3 scope ce fp) pins1 (wipe σ8 vs1) H' s' ∧ tn1 j s'.heap ∧ (∀ b ∈ fp1, H' b = none) ∧ W1 j k H') ?_ k0 ⟨0, H11, I11.weak (wipe_length ..) (fun j v e => (wipe_some e).1), st11, fun b hb => (f11 b hb).1, w10⟩
          rintro k s12 ⟨j, H12, I12, st12, n12, w12⟩
          rcases turn1 j k H12 w12 with ⟨stop, nx⟩ | ⟨go1, Nx1, hNx1, step1⟩
          · have td := T1.done (X.blk s3 H3 scope ce fp) rfl rfl rfl hc j pins1 s12 _ H12 (fun _ _ => False) I12 (stat1 n12) st12 stop
            refine thnF td fun r s13 ⟨hr, I13⟩ => ?_
            subst hr
            exact fin I13 (wipe_length ..) (fun j v hj e => wipe_keep (fun z => hj (hv j z)) e) nx
          · have ti := T1.item (X.blk s3 H3 scope ce fp) rfl rfl rfl hc j pins1 s12 _ H12 (fun _ _ => False) I12 (stat1 n12) st12 go1
            refine thnF ti fun r s13 ⟨u1, hr, h13⟩ => ?_
            subst hr
            refine thnF h13 fun _ s14 ⟨x1, H14, I14, r14, y14, st14, n14⟩ => ?_
            have I14' := I14.pinned (stat1 n14) (T1.obj _ _ st14)
            refine thnF (pg1.run _ s14 _ H14 x1 u1 _ I14' r14 (step1 x1 H14 y14)) fun _ s15 ⟨σ15, H15, I15, hw15, q15⟩ => ?_
            refine thnF (pt1.run _ s15 σ15 H15 _ I15 q15) fun b1 s16 ⟨H16, I16, q16⟩ => ?_
            have fin1 : ∀ {s' : Shared} {H' : Hp}, Inv (X.blk s3 H3 scope ce fp) (pins1 ++ pinsAt fp1 s14.heap) σ15 H' s' → Nx1 H' → ∃ k', k' < k ∧ ∃ j H', Inv (X.blk s3 H3 scope ce fp) pins1 (wipe σ8 vs1) H' s' ∧ tn1 j s'.heap ∧ (∀ b ∈ fp1, H' b = none) ∧ W1 j k' H' := fun {s' H'} I' nx => by
              obtain ⟨k', hk', w'⟩ := hNx1 H' nx
              have pin' : ∀ b ∈ fp1, ∀ o, s14.heap.get? b = some o → s'.heap.get? b = some o ∧ H' b = none := fun b hb o e =>
                let z := I'.pin (b, o) (List.mem_append_right _ (List.mem_append_right _ (mem_pinsAt hb e)))
                ⟨z.1, z.2.1⟩
              have hl : (wipe σ8 vs1).length = σ15.length := by rw [← hw15, wipe_length]
              refine ⟨k', hk', j + 1, H', (I'.unpinned (pins := pins1)).weak hl (fun j v e => ?_), T1.keep _ _ _ st14 fun b hb o e => (pin' b hb o e).1, fun b hb => ?_, w'⟩
              · rw [← hw15] at e
                exact (wipe_some e).1
              · obtain ⟨o, e, _⟩ := T1.obj _ _ st14 b hb
                exact (pin' b hb o e).2
            cases b1 with
            | false =>
              simp only [Bool.false_eq_true, if_false] at q16 ⊢
              exact fin1 I16 q16
            | true =>
              simp only [if_true] at q16 ⊢
              refine thnF (pk.run _ s16 σ15 H16 _ I16 q16) fun z s17 ⟨yk, H17, I17, r17, q17⟩ => ?_
              refine thnF (pe.run _ s17 σ15 H17 _ I17 q17) fun z2 s18 ⟨yv, H18, I18, r18, kvs, kk, b, ek, hD18, hb18, hz18, nx⟩ => ?_
              subst ek
              obtain rfl : z = Value.ref b := r17
              exact d_dictSetT (X := X.blk s3 H3 scope ce fp) hu I18 hD18 hb18 hz18 r18 fun s19 I19 => fin1 I19 nx
        exact startD inner (T1.self X.A 0 _ _ _ st11 inner)
  exact codeAny_compStart_dict loop (T.self X.A 0 _ _ _ st4 loop)
end
end L2.My
end
section
set_option Elab.async false
set_option linter.all false
set_option maxRecDepth 100000
set_option maxHeartbeats 4000000
namespace L2.My
open PySem PySem.Spec PyProof.Rows
/-! sets of things that stand on the heap and have a key (tuples of ints and texts among them) -/
/-- what may stand in such a set -/
structure Able {P : Program} {w : World} {K : Type} [DecidableEq K] (κ : HeapKind P w K) : Prop where
  cls : ∀ {A : Around} {E : Value → Shared → Prop} {s : Shared} {k : K} {b : Addr} {Q : Bool → Shared → Prop}, κ.is s.heap k b → Q false s → wpAny (model P w) A (ofAClassStatement 8 (.ref b)) Q E s
  byv : ∀ {A : Around} {E : Value → Shared → Prop} {s : Shared} {k : K} {b : Addr} {Q : Bool → Shared → Prop}, κ.is s.heap k b → (∀ r, Q r s) → wpAny (model P w) A (hashByValue 8 (.ref b)) Q E s
  keep : ∀ {h h' : Heap} {k : K} {b d : Addr} {o : Obj} {es : Array (Int × Value)} {ep : Nat} {t : SetTable}, κ.is h k b → h.get? d = some o → o.data = .set es ep t → Heap.SameBut d h h' → κ.is h' k b
  ext : ∀ {h h' : Heap} {k : K} {b : Addr}, κ.is h k b → (∀ c o, h.get? c = some o → h'.get? c = some o) → κ.is h' k b
section
variable {P : Program} {w : World} {K : Type} [DecidableEq K] {κ : HeapKind P w K}
/-- the rows of a set -/
def ent (κ : HeapKind P w K) (L : List (Addr × K)) : List (Int × Value) := L.map fun p => (κ.hash p.2, Value.ref p.1)
abbrev hsh (κ : HeapKind P w K) (L : List (Addr × K)) : List Int := L.map fun p => κ.hash p.2
theorem ent_at {L : List (Addr × K)} {i : Nat} {p : Addr × K} (h : L[i]? = some p) : (ent κ L).toArray[i]? = some (κ.hash p.2, Value.ref p.1) := by
  unfold ent
  simp [h]
theorem ent_len {L : List (Addr × K)} : (ent κ L).toArray.size = L.length := by
  unfold ent
  simp
/-- the set at a holds these things, laid so -/
structure Lies (κ : HeapKind P w K) (h : Heap) (a : Addr) (L : List (Addr × K)) (ep : Nat) (t : SetTable) : Prop where
  obj : ∃ o, h.get? a = some o ∧ o.ExactSet ∧ o.data = .set (ent κ L).toArray ep t
  tab : TabOk t (hsh κ L)
  nd : (L.map (·.2)).Nodup
  all : ∀ p ∈ L, κ.is h p.2 p.1
  led : w.params.followText "set-order" = true ∨ t.led = true
  room : L.length * 5 < t.mask * 3
  few : L.length < 64
variable {A : Around} {E : Value → Shared → Prop} {s : Shared} {a : Addr} {L : List (Addr × K)} {ep : Nat} {t : SetTable}
theorem lies_fits {L : List (Addr × K)} (T : TabOk t (hsh κ L)) (hr : L.length ≤ t.mask) : t.fits (ent κ L).toArray.size = true := by
  have h1 := T.sz
  rw [List.length_map] at h1
  rw [ent_len]
  unfold SetTable.fits SetTable.fill
  rw [T.dm, h1]
  simp
  exact hr
theorem Lies.fits (R : Lies κ s.heap a L ep t) : t.fits (ent κ L).toArray.size = true := lies_fits R.tab (by have := R.room; omega)
/-- nothing is seen of a search among such things -/
theorem unseen (G : Able κ) {k : K} {b : Addr} {Q : Bool → Shared → Prop} (hk : κ.is s.heap k b) {ys : List Value} (hy : ∀ y ∈ ys, ∃ k' c, y = Value.ref c ∧ κ.is s.heap k' c) (h : Q false s) :
    wpAny (model P w) A (searchCouldBeSeen (.ref b) ys) Q E s := by
  unfold searchCouldBeSeen
  refine wpAny_bind (wpAny_forIn_list _ (fun l r s' => (r.1 = none ∧ s' = s) ∧ ∀ y ∈ l, ∃ k' c, y = Value.ref c ∧ κ.is s.heap k' c) _ (fun y l r s' H => ?_) (fun r s' H => ?_) _ _ ⟨⟨rfl, rfl⟩, hy⟩)
  · obtain ⟨⟨e1, e2⟩, H2⟩ := H
    obtain ⟨k', c, e3, hc⟩ := H2 y List.mem_cons_self
    have H3 := fun u (hu : u ∈ l) => H2 u (List.mem_cons_of_mem _ hu)
    subst e2 e3
    dsimp only
    by_cases q : (b == c || (carriedByValue (.ref b) && carriedByValue (.ref c))) = true
    · exact wp_if_pos q (wpAny_pure ⟨⟨rfl, rfl⟩, H3⟩)
    · refine wp_if_neg q (wpAny_bind (κ.quiet hk ?_))
      simp only [Bool.not_true, Bool.false_eq_true, if_false]
      refine wpAny_bind (κ.quiet hc ?_)
      simp only [Bool.not_true, Bool.false_eq_true, if_false]
      refine wpAny_bind (G.cls hk ?_)
      simp only [Bool.false_eq_true, if_false]
      refine wpAny_bind (G.cls hc ?_)
      simp only [Bool.false_eq_true, if_false]
      exact wpAny_pure ⟨⟨rfl, rfl⟩, H3⟩
  · obtain ⟨r1, r2⟩ := r
    obtain ⟨⟨e1, e2⟩, _⟩ := H
    subst e2
    cases e1
    exact wpAny_pure h
/-- where the way of a hash stands -/
abbrev spot (m : Nat) (h : Int) : Nat → SetTable.Probe := nth m (runAt m (SetTable.bits h % (m + 1)) (SetTable.bits h))
theorem spot_dummy (m : Nat) (h : Int) (c : Nat) : (spot m h c).dummy = none := by
  have z : ∀ n (p : SetTable.Probe), p.dummy = none → (nth m p n).dummy = none := fun n => by
    induction n with
    | zero => exact fun p e => e
    | succ n ih => exact fun p e => ih _ (by unfold adv; split <;> exact e)
  exact z c _ rfl
theorem hunt (G : Able κ) (R : Lies κ s.heap a L ep t) {x : Addr} {k : K} (hx : κ.is s.heap k x) (hu : κ.room A) (hu2 : κ.room A.in1) {K0 : Nat} (hb : K0 < 10 * SetTable.turns t.mask) (free : way t.mask (κ.hash k) K0 ∉ t.place.toList)
    (busy : ∀ c, c < K0 → way t.mask (κ.hash k) c ∈ t.place.toList) {Q : SetFound → Shared → Prop} (hin : k ∈ L.map (·.2) → Q (.there none) s) (hout : k ∉ L.map (·.2) → Q (.free (way t.mask (κ.hash k) K0) false) s) :
    ∀ (f c : Nat) (st : Option SetTable.Probe), st.getD (t.probeStart (κ.hash k)) = spot t.mask (κ.hash k) c → c ≤ K0 → K0 - c < f →
      (∀ (i : Nat) p, L[i]? = some p → p.2 = k → ∃ c', c ≤ c' ∧ c' < K0 ∧ t.place.toList[i]? = some (way t.mask (κ.hash k) c')) → wpAny (model P w) A (setSearchFrom a (.ref x) (κ.hash k) true f st) Q E s := by
  obtain ⟨o, ho, hex, hd⟩ := R.obj
  have hm : ∀ (i : Nat) (p : Addr × K), L[i]? = some p → (((ent κ L).toArray[i]?).map (·.1)).getD 0 = κ.hash p.2 := fun i p e => by rw [ent_at e]; rfl
  intro f
  induction f with
  | zero => exact fun c st _ _ h => absurd h (Nat.not_lt_zero _)
  | succ f ih =>
    intro c st hst hc hf ahead
    have gone : ∀ q, nth t.mask (spot t.mask (κ.hash k) c) q = spot t.mask (κ.hash k) (c + q) := fun q => (nth_add _ _ _ _).symm
    have word := go_spec t R.tab.ris R.tab.dm (fun i => (((ent κ L).toArray[i]?).map (·.1)).getD 0) (κ.hash k) (10 * SetTable.turns t.mask) (K0 - c) (spot t.mask (κ.hash k) c) (spot_dummy _ _ _) (by omega)
      (fun q hq => by rw [gone]; exact busy _ (by omega)) (by rw [gone, Nat.add_sub_cancel' hc]; exact free)
    simp only [gone] at word
    rw [← hst] at word
    have pe : t.probe (fun i => (((ent κ L).toArray[i]?).map (·.1)).getD 0) (κ.hash k) (st.getD (t.probeStart (κ.hash k))) = SetTable.probe.go t (fun i => (((ent κ L).toArray[i]?).map (·.1)).getD 0) (κ.hash k) (10 * SetTable.turns t.mask) (st.getD (t.probeStart (κ.hash k))) := rfl
    rw [← pe] at word
    rw [setSearchFrom_succ]
    refine wpAny_bind (wpAny_setState_of ho hd R.fits ?_)
    refine wp_if_neg (by unfold SetTable.gaveWay; rw [mask_odd R.tab.mok]; decide) ?_
    try refine wpAny_bind (wpAny_pure ?_)
    rcases word with ⟨q, i, hq, hi, hh, hno, hpr⟩ | ⟨hno, hpr⟩
    · rw [hpr]
      dsimp only
      have hil : i < L.length := by
        have z1 := (List.getElem?_eq_some_iff.mp hi).1
        have z2 := R.tab.sz
        rw [List.length_map] at z2
        rw [Array.length_toList, z2] at z1
        exact z1
      obtain ⟨p, hp⟩ : ∃ p, L[i]? = some p := ⟨_, List.getElem?_eq_getElem hil⟩
      have pm := List.mem_of_getElem? hp
      have live := slot_live R.tab.ris hi
      have go : wpAny (model P w) A (searchRest a (.ref x) (κ.hash k) true f (ent κ L).toArray t (way t.mask (κ.hash k) (c + q)) i (spot t.mask (κ.hash k) (c + (q + 1)))) Q E s := by
        unfold searchRest
        rw [ent_at hp]
        dsimp only
        refine wpAny_bind (wpAny_holding (κ.eqBool hu (R.all p pm) hx ?_))
        refine wpAny_bind (wpAny_setState_of ho hd R.fits ?_)
        dsimp only
        by_cases same : p.2 = k
        · exact wp_if_pos (by simp [same]) (wpAny_pure (hin (List.mem_map.mpr ⟨p, pm, same⟩)))
        · refine wp_if_neg (by simp [same]) ?_
          try refine wpAny_bind (wpAny_pure ?_)
          rw [sameMem]
          dsimp only
          simp only [if_true, live, ent_at hp]
          refine wpAny_bind (wpAny_isSame_ref_self (wpAny_bind (wpAny_pure ?_)))
          simp only [if_true]
          refine wp_if_neg (by simp [same]) (ih (c + (q + 1)) _ rfl (by omega) (by omega) fun j p' hj hk => ?_)
          obtain ⟨c', a1, a2, a3⟩ := ahead j p' hj hk
          have b1 : c + q ≤ c' := Nat.le_of_not_lt fun z => by
            refine hno (c' - c) j (by omega) (by rw [Nat.add_sub_cancel' a1]; exact a3) ?_
            rw [hm j p' hj, hk]
          have b2 : c + q ≠ c' := fun z => by
            rw [← z] at a3
            have l2 := slot_live R.tab.ris a3
            rw [live] at l2
            cases l2
            rw [hp] at hj
            cases hj
            exact same hk
          exact ⟨c', by omega, a2, a3⟩
      by_cases hl : t.led = true
      · refine wp_if_neg (by simp [hl]) ?_
        try refine wpAny_bind (wpAny_pure ?_)
        exact go
      · refine wp_if_pos (by simp [hl]) (wpAny_bind (unseen G hx (fun y hy => ?_) (wp_if_neg (by decide) ?_)))
        · obtain ⟨e, he, rfl⟩ := List.mem_map.mp hy
          have he2 : e ∈ ent κ L := by
            have z : e ∈ (ent κ L).toArray ∧ e.1 = κ.hash k := by simpa using he
            simpa using z.1
          obtain ⟨p2, hp2, rfl⟩ := List.mem_map.mp he2
          exact ⟨p2.2, p2.1, rfl, R.all p2 hp2⟩
        · try refine wpAny_bind (wpAny_pure ?_)
          exact go
    · rw [hpr, Nat.add_sub_cancel' hc]
      refine wpAny_pure (hout fun mem => ?_)
      obtain ⟨p', hp', hk⟩ := List.mem_map.mp mem
      obtain ⟨j, hj⟩ := List.getElem?_of_mem hp'
      obtain ⟨c', a1, a2, a3⟩ := ahead j p' hj hk
      refine hno (c' - c) j (by omega) (by rw [Nat.add_sub_cancel' a1]; exact a3) ?_
      rw [hm j p' hj, hk]
end
end L2.My
end
section
set_option Elab.async false
set_option linter.all false
set_option maxRecDepth 100000
set_option maxHeartbeats 4000000
namespace L2.My
open PySem PySem.Spec PyProof.Rows
section
variable {P : Program} {w : World} {K : Type} [DecidableEq K] {κ : HeapKind P w K}
variable {A : Around} {E : Value → Shared → Prop} {s : Shared} {a : Addr} {L : List (Addr × K)} {ep : Nat} {t : SetTable}
theorem pick_all (L : List (Addr × K)) : ∀ n, n ≤ L.length → (List.range n).filterMap (fun i => L[i]?) = L.take n
  | 0, _ => by simp
  | n + 1, h => by
    rw [List.range_succ, List.filterMap_append, pick_all L n (by omega), List.take_succ]
    congr 1
theorem ent_pick {L : List (Addr × K)} (l : List Nat) : l.filterMap (fun i => (ent κ L)[i]?) = ent κ (l.filterMap fun i => L[i]?) := by
  unfold ent
  rw [List.map_filterMap]
  congr 1
  funext i
  rw [List.getElem?_map]
theorem hsh_pick {L : List (Addr × K)} : ∀ (l : List Nat), (∀ i ∈ l, i < L.length) → hsh κ (l.filterMap fun i => L[i]?) = l.map fun i => ((ent κ L).toArray.map (·.1)).getD i 0
  | [], _ => rfl
  | i :: l, h => by
    have hi := h i List.mem_cons_self
    rw [List.filterMap_cons_some (List.getElem?_eq_getElem hi), List.map_cons, ← hsh_pick l fun j hj => h j (List.mem_cons_of_mem _ hj)]
    show κ.hash L[i].2 :: hsh κ _ = _
    congr 1
    have q : ((ent κ L).toArray.map (·.1))[i]? = some (κ.hash L[i].2) := by rw [Array.getElem?_map, ent_at (List.getElem?_eq_getElem hi)]; rfl
    rw [Array.getD_eq_getD_getElem?, q]
    rfl
/-- the table is laid anew -/
theorem relay (G : Able κ) {o : Obj} (ho : s.heap.get? a = some o) (hex : o.ExactSet) (hd : o.data = .set (ent κ L).toArray ep t) (T : TabOk t (hsh κ L)) (hm : L.length ≤ t.mask) (nd : (L.map (·.2)).Nodup) (all : ∀ p ∈ L, κ.is s.heap p.2 p.1)
    (ld : w.params.followText "set-order" = true ∨ t.led = true) (few : L.length < 64) {n M : Nat} (h1 : SetTable.sizeAbove n - 1 = M) (h2 : MaskOk M) (h3 : SetTable.sizeAbove n ≤ 128) (h4 : L.length * 5 < M * 3) {Q : Unit → Shared → Prop}
    (hQ : ∀ h' L' ep' t', Heap.SameBut a s.heap h' → Lies κ h' a L' ep' t' → L'.Perm L → Q () { s with heap := h' }) : wpAny (model P w) A (setRelay a n) Q E s := by
  obtain ⟨t', order, e, hp, T', e1, e2, e3, e4⟩ := relaid_ok t (hs := (ent κ L).toArray.map (·.1)) (wanted := n) h1 h2 (by rw [Array.size_map, ent_len]; omega)
  rw [Array.size_map, ent_len] at hp
  have low : ∀ i ∈ order.toList, i < L.length := fun i hi => List.mem_range.mp (hp.mem_iff.mp hi)
  have hes : order.filterMap (fun i => (ent κ L).toArray[i]?) = (ent κ (order.toList.filterMap fun i => L[i]?)).toArray := by
    refine Array.toList_inj.mp ?_
    rw [Array.toList_filterMap, ← ent_pick]
    simp
  have perm : (order.toList.filterMap fun i => L[i]?).Perm L := by
    have z := hp.filterMap fun i => L[i]?
    rw [pick_all L _ (Nat.le_refl _), List.take_length] at z
    exact z
  rw [← hsh_pick _ low] at T'
  generalize order.toList.filterMap (fun i => L[i]?) = L' at hes perm T'
  have len := perm.length_eq
  rw [setRelay_eq]
  refine wpAny_bind (wpAny_setState_of ho hd (lies_fits T hm) ?_)
  dsimp only
  refine wp_if_neg (by rw [sizeLine_eq]; omega) ?_
  try refine wpAny_bind (wpAny_pure ?_)
  rw [e]
  dsimp only
  rw [hes]
  refine wpAny_bind (wp_if_neg (by rw [ent_len, ent_len, len]; simp) ?_)
  try refine wpAny_bind (wpAny_pure ?_)
  refine wpAny_pure (wpAny_storeSet_of ho hd ?_ (by rw [ent_len, sizeLine_eq]; omega))
  have sb : Heap.SameBut a s.heap (s.heap.update a (Obj.putSet (ent κ L').toArray t')) := Heap.SameBut.update ..
  exact hQ _ L' (ep + 1) t' sb ⟨⟨_, store_at ho hd, ⟨hex.1, hex.2.1, hex.2.2⟩, rfl⟩, T', (perm.map (·.2)).nodup_iff.mpr nd, fun p hpm => G.keep (all p (perm.mem_iff.mp hpm)) ho hd sb,
    by rw [e2]; exact ld, by rw [len, e1]; exact h4, by rw [len]; exact few⟩ perm
theorem wp_any_flag {M : Model} {c : Prop} [Decidable c] {m : Sem Bool} {β : Type} {f : Bool → Sem β} {Q : β → Shared → Prop} (h1 : ∀ {Q' : Bool → Shared → Prop}, (∀ r, Q' r s) → wpAny M A m Q' E s) (h2 : ∀ r, wpAny M A (f r) Q E s) :
    wpAny M A (if c then m >>= f else pure true >>= f) Q E s := by
  by_cases q : c
  · exact wp_if_pos q (wpAny_bind (h1 h2))
  · exact wp_if_neg q (wpAny_bind (wpAny_pure (h2 true)))
theorem ent_ins (L : List (Addr × K)) (n : Nat) (x : Addr) (k : K) : SetTable.insertAt (ent κ L).toArray n (κ.hash k, Value.ref x) = (ent κ (L.take n ++ (x, k) :: L.drop n)).toArray := by
  refine Array.toList_inj.mp ?_
  rw [SetTable.toList_insertAt]
  unfold ent
  simp [List.map_take, List.map_drop]
/-- one more thing, unless its key is there -/
theorem join1 (G : Able κ) (R : Lies κ s.heap a L ep t) {x : Addr} {k : K} (hx : κ.is s.heap k x) (hr : κ.room A.in1) (hr' : κ.room A) (few : L.length + 1 < 64) {Q : Bool → Shared → Prop}
    (hQ : ∀ b h' L' ep' t', Heap.SameBut a s.heap h' → Lies κ h' a L' ep' t' → (k ∈ L.map (·.2) ∧ L' = L ∨ k ∉ L.map (·.2) ∧ L'.Perm ((x, k) :: L)) → Q b { s with heap := h' }) :
    wpAny (model P w) A (setAddHashed a (.ref x) (κ.hash k)) Q E s := by
  obtain ⟨o, ho, hex, hd⟩ := R.obj
  have room := R.room
  have hl : (hsh κ L).length = L.length := List.length_map _
  unfold setAddHashed
  refine wpAny_holding ?_
  rw [show (100000 : Nat) = 99999 + 1 from rfl, setAddHashedIn_succ]
  refine wpAny_bind (wpAny_setState_of ho hd R.fits ?_)
  dsimp only
  refine wp_if_neg (by simp [byScan, Value.scannable]) ?_
  try refine wpAny_bind (wpAny_pure ?_)
  obtain ⟨K0, b1, b2, b3⟩ := R.tab.first (by rw [hl]; omega) (κ.hash k)
  have b4 : K0 < 100000 := by
    have z : 10 * SetTable.turns t.mask ≤ 5000 := by
      unfold SetTable.turns
      rcases R.tab.mok with e | e | e <;> omega
    omega
  refine wpAny_bind ?_
  unfold setSearch
  refine hunt G R hx hr' hr b1 b2 b3 (fun mem => ?_) (fun mem => ?_) 100000 0 none rfl (Nat.zero_le _) (by omega) fun i p hp hk => ?_
  · exact wpAny_pure (hQ false s.heap L ep t (Heap.SameBut.refl a s.heap) R (.inl ⟨mem, rfl⟩))
  · dsimp only
    refine wpAny_bind (wpAny_setState_of ho hd R.fits ?_)
    dsimp only
    obtain ⟨q1, q2, q3, q4, q5, q6, q7, q8, q9⟩ := R.tab.put b2 b3
    rw [hl] at q9
    have ld1 : w.params.followText "set-order" = true ∨ (t.put (way t.mask (κ.hash k) K0)).1.led = true := by rw [q5]; exact R.led
    generalize t.put (way t.mask (κ.hash k) K0) = pt at q1 q3 q4 q9 ld1 ⊢
    obtain ⟨t1, n⟩ := pt
    dsimp only at q1 q3 q4 q9 ld1 ⊢
    rw [← q1] at q3
    clear q1 q2 q5 q6 q7 q8
    refine wp_any_flag (fun z => G.byv hx z) fun r => ?_
    have tb : TabOk (if r = true then t1 else { t1 with plain := false }) ((hsh κ L).take n ++ κ.hash k :: (hsh κ L).drop n) ∧ (if r = true then t1 else { t1 with plain := false }).mask = t.mask ∧ (if r = true then t1 else { t1 with plain := false }).fill = L.length + 1 ∧
        (w.params.followText "set-order" = true ∨ (if r = true then t1 else { t1 with plain := false }).led = true) := by
      cases r
      · exact ⟨⟨q3.1, q3.2, q3.3, q3.4, q3.5, q3.6⟩, q4, q9, ld1⟩
      · exact ⟨q3, q4, q9, ld1⟩
    generalize (if r = true then t1 else { t1 with plain := false }) = t2 at tb ⊢
    clear q3 q4 q9 ld1
    obtain ⟨q3, q4, q9, ld1⟩ := tb
    clear t1
    revert t2
    intro t1 q3 q4 q9 ld1
    rw [ent_ins]
    have perm : (L.take n ++ (x, k) :: L.drop n).Perm ((x, k) :: L) := by
      have z : (L.take n ++ (x, k) :: L.drop n).Perm ((x, k) :: (L.take n ++ L.drop n)) := List.perm_middle
      rw [List.take_append_drop] at z
      exact z
    have eh : (hsh κ L).take n ++ κ.hash k :: (hsh κ L).drop n = hsh κ (L.take n ++ (x, k) :: L.drop n) := by
      simp [hsh, List.map_take, List.map_drop]
    rw [eh] at q3
    generalize L.take n ++ (x, k) :: L.drop n = L1 at perm q3 ⊢
    have len : L1.length = L.length + 1 := perm.length_eq
    have nd1 : (L1.map (·.2)).Nodup := (perm.map (·.2)).nodup_iff.mpr (List.nodup_cons.mpr ⟨mem, R.nd⟩)
    refine wpAny_bind (wpAny_storeSet_of ho hd ?_ (by rw [ent_len, len, sizeLine_eq]; omega))
    have sb : Heap.SameBut a s.heap (s.heap.update a (Obj.putSet (ent κ L1).toArray t1)) := Heap.SameBut.update ..
    have ho1 := store_at (es' := (ent κ L1).toArray) (t' := t1) ho hd
    generalize s.heap.update a (Obj.putSet (ent κ L1).toArray t1) = h1 at sb ho1 ⊢
    have all1 : ∀ p ∈ L1, κ.is h1 p.2 p.1 := fun p hp => by
      rcases List.mem_cons.mp (perm.mem_iff.mp hp) with e | hp
      · rw [e]; exact G.keep hx ho hd sb
      · exact G.keep (R.all p hp) ho hd sb
    have full : t1.tooFull = decide ((L.length + 1) * 5 ≥ t.mask * 3) := by
      unfold SetTable.tooFull
      rw [q9, q4]
    by_cases hf : t1.tooFull = true
    · rw [full, decide_eq_true_eq] at hf
      have ft : t1.tooFull = true := by rw [full]; exact decide_eq_true hf
      first
        | (refine wpAny_bind (wp_if_pos (by simp [ft]) ?_))
        | (refine wp_if_pos (by simp [ft]) (wpAny_bind ?_))
      rw [ent_len]
      have step : ∀ M, SetTable.sizeAbove (SetTable.grown (L.length + 1)) - 1 = M → MaskOk M → SetTable.sizeAbove (SetTable.grown (L.length + 1)) ≤ 128 → (L.length + 1) * 5 < M * 3 → L.length + 1 ≤ t.mask →
          wpAny (model P w) A (setRelay a (SetTable.grown (L.length + 1))) (fun _ s' => wpAny (model P w) A (pure true) Q E s') E { s with heap := h1 } := fun M z1 z2 z3 z4 z5 =>
        relay (s := { s with heap := h1 }) G ho1 ⟨hex.1, hex.2.1, hex.2.2⟩ rfl q3 (by rw [len, q4]; exact z5) nd1 all1 ld1 (by rw [len]; exact few) z1 z2 z3 (by rw [len]; exact z4) fun h2 L2 ep2 t2 sb2 R2 p2 =>
          wpAny_pure (hQ true h2 L2 ep2 t2 (sb.trans sb2) R2 (.inr ⟨mem, p2.trans perm⟩))
      rcases R.tab.mok with e | e | e <;> rw [e] at hf room
      · have e5 : L.length = 4 := by omega
        rw [e5] at step ⊢
        exact step 31 (by rw [size_20]) (.inr (.inl rfl)) (by rw [size_20]; decide) (by decide) (by rw [e]; decide)
      · have e5 : L.length = 18 := by omega
        rw [e5] at step ⊢
        exact step 127 (by rw [size_76]) (.inr (.inr rfl)) (by rw [size_76]; decide) (by decide) (by rw [e]; decide)
      · omega
    · first
        | refine wp_if_neg (by simp [hf]) ?_
        | (refine wpAny_bind (wp_if_neg (by simp [hf]) (wpAny_pure ?_)))
      rw [full, decide_eq_true_eq] at hf
      exact wpAny_pure (hQ true h1 L1 (ep + 1) t1 sb ⟨⟨_, ho1, ⟨hex.1, hex.2.1, hex.2.2⟩, rfl⟩, q3, nd1, all1, ld1, by rw [len, q4]; omega, by rw [len]; exact few⟩ (.inr ⟨mem, perm⟩))
  · have z1 := List.getElem?_eq_some_iff.mp hp
    have hh : (hsh κ L)[i]? = some (κ.hash k) := by rw [List.getElem?_map, hp, ← hk]; rfl
    have hil : i < t.place.toList.length := by
      rw [Array.length_toList, R.tab.sz, hl]
      exact z1.1
    obtain ⟨c, hc, e⟩ := R.tab.before b2 hh (List.getElem?_eq_getElem hil)
    exact ⟨c, Nat.zero_le _, hc, by rw [List.getElem?_eq_getElem hil, e]⟩
end
end L2.My
end
section
set_option Elab.async false
set_option linter.all false
set_option maxRecDepth 100000
set_option maxHeartbeats 4000000
namespace L2.My
open PySem PySem.Spec PyProof.Rows
section
variable {P : Program} {w : World} {K : Type} [DecidableEq K] {κ : HeapKind P w K}
variable {A : Around} {E : Value → Shared → Prop} {s : Shared} {a : Addr} {L : List (Addr × K)} {ep : Nat} {t : SetTable}
/-- what has been taken of the first i of some things -/
def Took (ks : List (Addr × K)) (i : Nat) (L : List (Addr × K)) : Prop := (∀ p ∈ L, p ∈ ks.take i) ∧ ∀ p ∈ ks.take i, p.2 ∈ L.map (·.2)
theorem Took.step {ks L L' : List (Addr × K)} {i : Nat} {x : Addr} {k : K} (g : Took ks i L) (h : ks[i]? = some (x, k)) (c : k ∈ L.map (·.2) ∧ L' = L ∨ k ∉ L.map (·.2) ∧ L'.Perm ((x, k) :: L)) : Took ks (i + 1) L' := by
  have e : ks.take (i + 1) = ks.take i ++ [(x, k)] := by rw [List.take_succ, h]; rfl
  unfold Took
  rw [e]
  rcases c with ⟨m, rfl⟩ | ⟨m, pm⟩
  · refine ⟨fun p hp => List.mem_append_left _ (g.1 p hp), fun p hp => ?_⟩
    rcases List.mem_append.mp hp with z | z
    · exact g.2 p z
    · rw [List.mem_singleton.mp z]; exact m
  · refine ⟨fun p hp => ?_, fun p hp => ((pm.map (·.2)).mem_iff).mpr ?_⟩
    · rcases List.mem_cons.mp (pm.mem_iff.mp hp) with z | z
      · rw [z]; exact List.mem_append_right _ (List.mem_singleton.mpr rfl)
      · exact List.mem_append_left _ (g.1 p z)
    · rcases List.mem_append.mp hp with z | z
      · exact List.mem_cons_of_mem _ (g.2 p z)
      · rw [List.mem_singleton.mp z]; exact List.mem_cons_self
theorem Lies.on (G : Able κ) {h h' : Heap} (R : Lies κ h a L ep t) (ha : ∀ o, h.get? a = some o → h'.get? a = some o) (ht : ∀ p ∈ L, κ.is h' p.2 p.1) : Lies κ h' a L ep t :=
  ⟨let ⟨o, z, r⟩ := R.obj; ⟨o, ha o z, r⟩, R.tab, R.nd, ht, R.led, R.room, R.few⟩
abbrev newSet (w : World) : Obj := { cls := .type "set", dict := none, data := .set #[] 0 (.fresh 0 0 (!w.params.followText "set-order")) }
theorem Lies.new {h : Heap} {a : Addr} (ho : h.get? a = some (newSet w)) : Lies κ h a [] 0 (.fresh 0 0 (!w.params.followText "set-order")) := by
  refine ⟨⟨_, ho, ⟨rfl, rfl, rfl⟩, rfl⟩, ⟨List.Pairwise.nil, rfl, rfl, .inl rfl, fun x hx => (by cases hx), fun i h j hi => (by simp [hsh] at hi)⟩, List.nodup_nil, fun p hp => (by cases hp), ?_, by show 0 * 5 < 7 * 3; decide, by show 0 < 64; decide⟩
  show _ ∨ (!w.params.followText "set-order") = true
  cases w.params.followText "set-order"
  · exact .inr rfl
  · exact .inl rfl
/-- the loop of set.update -/
theorem fill (G : Able κ) {I : Addr} {fp wr : List Addr} {Y : Array GenState → Array GenState → Prop} {n : Nat} {Pv : Nat → Value → Prop} {St : Nat → Shared → Prop} {R : Result → Shared → Prop}
    (W : WalksS P w A.in1 I fp wr Y n Pv St) (Z : Addr) (hZ : Z ∉ fp) (ks : List (Addr × K)) (hn : n = ks.length) (cap : ∀ L : List (Addr × K), (∀ p ∈ L, p ∈ ks) → (L.map (·.2)).Nodup → L.length + 1 < 64)
    (val : ∀ i v, Pv i v → ∃ p, ks[i]? = some p ∧ v = .ref p.1) (h0 : Heap) (hk : ∀ p ∈ ks, κ.is h0 p.2 p.1) (z0 : h0.get? Z = none) (w0 : ∀ b ∈ wr, h0.get? b = none) (r1 : κ.room A.in1) (r2 : κ.room A.in1.in1) :
    ∀ (m i : Nat) (s : Shared), i + m = n → St i s → (∀ b o, h0.get? b = some o → s.heap.get? b = some o) → (∃ L ep t, Lies κ s.heap Z L ep t ∧ Took ks i L) →
      (∀ s' L ep t, Moved (Z :: wr) Y s s' → Lies κ s'.heap Z L ep t → Took ks n L → (∀ b o, h0.get? b = some o → s'.heap.get? b = some o) → R (.ok (.ret .none)) s') →
      codeAny (model P w) A (.builtin "set.update.loop" ⟨[.ref Z, .ref I], []⟩) R s := by
  have zw : Z ∉ wr := fun h => hZ (W.sub _ h)
  have up : ∀ b ∈ wr, b ∈ Z :: wr := fun b hb => List.mem_cons_of_mem _ hb
  have on : ∀ {s s' : Shared}, Moved wr Y s s' → (∀ b o, h0.get? b = some o → s.heap.get? b = some o) → ∀ b o, h0.get? b = some o → s'.heap.get? b = some o := fun mv k b o e =>
    mv.heap b o (fun hb => by rw [w0 b hb] at e; cases e) (k b o e)
  have inks : ∀ {L : List (Addr × K)} {i : Nat}, Took ks i L → ∀ p ∈ L, p ∈ ks := fun g p hp => List.mem_of_mem_take (g.1 p hp)
  intro m
  induction m with
  | zero =>
    intro i s hi st k ⟨L, ep, t, hL, g⟩ hR
    obtain rfl : i = n := hi
    refine codeAny_builtin F.entry_set_update_loop ?_
    rw [Around.under_plainId F.plain_set_update_loop _]
    refine wpAny_bind (m := pyNext (.ref I)) (W.done s _ _ st fun s' mv => ?_)
    exact wpAny_pure (hR s' L ep t (mv.mono up) (hL.on G (fun o e => mv.heap Z o zw e) fun p hp => G.ext (hk p (inks g p hp)) (on mv k)) g (on mv k))
  | succ m ih =>
    intro i s hi st k ⟨L, ep, t, hL, g⟩ hR
    refine codeAny_builtin F.entry_set_update_loop ?_
    rw [Around.under_plainId F.plain_set_update_loop _]
    refine wpAny_bind (m := pyNext (.ref I)) (W.item i s _ _ (by omega) st fun v s' hv st' mv => ?_)
    obtain ⟨⟨x, q⟩, hp, rfl⟩ := val i v hv
    have k' := on mv k
    have hL' : Lies κ s'.heap Z L ep t := hL.on G (fun o e => mv.heap Z o zw e) fun p hp => G.ext (hk p (inks g p hp)) k'
    have hx : κ.is s'.heap q x := G.ext (hk _ (List.mem_of_getElem? hp)) k'
    refine wpAny_bind (m := holding [Value.ref x] (setAdd Z (.ref x))) (wpAny_holding ?_)
    unfold setAdd
    refine wpAny_holding (wpAny_bind (κ.pyHash r1 hx ?_))
    refine join1 (s := { s' with toks := s'.toks + κ.draws q }) G hL' hx r2 r1 (cap L (inks g) hL.nd) fun b h' L' ep' t' sb hL2 c => ?_
    have g' := g.step hp c
    have k2 : ∀ b o, h0.get? b = some o → h'.get? b = some o := fun b o e => (sb.2 b (fun z => by rw [z, z0] at e; cases e)).trans (k' b o e)
    refine wpAny_pure ⟨plainId_quiet F.plain_set_update_loop _, ih (i + 1) _ (by omega) (W.frame _ s' _ _ st' (Nat.le_add_right _ _) fun b hb o e => ?_) k2 ⟨L', ep', t', hL2, g'⟩ fun s'' L3 ep3 t3 mv3 hL3 g3 k3 => ?_⟩
    · exact (sb.2 b (fun h : b = Z => hZ (by rw [← h]; exact hb))).trans e
    · refine hR s'' L3 ep3 t3 (Moved.trans W.gtrans ((mv.mono up).then_heap (Nat.le_add_right _ _) fun b o hb e => ?_) mv3) hL3 g3 k3
      exact (sb.2 b (fun h : b = Z => hb (by rw [h]; exact List.mem_cons_self))).trans e
end
end L2.My
end
section
set_option Elab.async false
set_option linter.all false
set_option maxRecDepth 100000
set_option maxHeartbeats 8000000
namespace L2.My
open PySem PySem.Spec PyProof.Rows
section
variable {P : Program} {w : World} {K : Type} [DecidableEq K] {κ : HeapKind P w K}
variable {A : Around} {E : Value → Shared → Prop} {s : Shared}
/-- set(xs) of such things -/
theorem makeSet (G : Able κ) {l : Addr} {items : Array Value} (ks : List (Addr × K)) {Q : Value → Shared → Prop} (hh : A.handled = none) (hl : s.heap.IsList l items) (hit : items.toList = ks.map fun p => Value.ref p.1)
    (hk : ∀ p ∈ ks, κ.is s.heap p.2 p.1) (cap : ∀ L : List (Addr × K), (∀ p ∈ L, p ∈ ks) → (L.map (·.2)).Nodup → L.length + 1 < 64) (hr : ∀ B : Around, B.units ≤ A.units + 8 → κ.room B)
    (h : ∀ (h' : Heap) (tk : Nat) L ep t, Lies κ h' s.heap.objs.size L ep t → Took ks ks.length L → (∀ b o, s.heap.get? b = some o → h'.get? b = some o) → Q (.ref s.heap.objs.size) { s with heap := h', toks := tk }) :
    wpAny (model P w) A (call (.type "set") [.ref l]) Q E s := by
  have size : items.size = ks.length := by
    rw [← Array.length_toList, hit, List.length_map]
  obtain ⟨c, tl, mro⟩ := F.called_set.mro
  have made := F.called_set.made
  have hsub := F.called_set.sub
  refine wpAny_call (codeAny_of_tree ?_)
  change wpAny _ _ (callAny (.type "set") _) _ _ _
  refine wpAny_pure ⟨Code.quiet_builtin _ (by decide +kernel), codeAny_builtin F.entry_type_call ?_⟩
  rw [Around.under_plain (weight_type_call_type "set" [.ref l] []) rfl]
  have g1 := F.called_set.notType
  have g2 := F.called_set.canCreate
  have g3 := F.typeCall_set_1 (.ref l)
  repeat (any_goals (first | assumption | wp_step))
  refine codeAny_mono (code_set_led1 (.ref l) (E := E) (Q₁ := fun x s1 => x = .ref s.heap.objs.size ∧ s1 = { s with heap := s.heap.push (newSet w) }) ⟨rfl, rfl⟩) fun r s1 hr' => ?_
  rcases r with e | fl
  · exact hr'
  rcases fl with x | _ | _ | _
  any_goals exact hr'.elim
  obtain ⟨rfl, rfl⟩ := hr'
  have new : (s.heap.push (newSet w)).get? s.heap.objs.size = some (newSet w) := Heap.get?_push_size s.heap rfl
  have ty : Shared.TypeIs { s with heap := s.heap.push (newSet w) } (.ref s.heap.objs.size) "set" := ⟨_, new, rfl⟩
  have look := F.called_set.init.lookup
  have bound := F.called_set.init.bind (.ref s.heap.objs.size)
  repeat (any_goals (first | assumption | wp_step))
  refine codeAny_mono (codeAny_call_builtin (R := wants (fun r s2 => r = .none ∧ ∃ h' tk L ep t, s2 = { s with heap := h', toks := tk } ∧ Lies κ h' s.heap.objs.size L ep t ∧ Took ks ks.length L ∧ ∀ b o, s.heap.get? b = some o → h'.get? b = some o) E)
    F.called_set.init.plain F.entry_set_init (check_set_init_1 ty ?_)) fun r2 s2 hr2 => ?_
  · obtain ⟨⟨ocl, odi, oda, osl⟩, hol, hcl, nl, hdl⟩ := hl
    simp only at hcl hdl
    subst hcl hdl
    have hol' : (s.heap.push (newSet w)).get? l = some { cls := .type "list", dict := odi, data := .seq items nl, slots := osl } := Heap.get?_push_of_some _ hol
    have n1 := F.sub_list_set
    have n2 := F.sub_list_frozenset
    have n3 : (Value.type "list" == Value.type "dict") = false := by decide
    have hl1 : (s.heap.push (newSet w)).IsList l items := ⟨_, hol', rfl, nl, rfl⟩
    unfold Builtin.«set.__init__» noKeywords Builtin.Frozenset.updateFrom
    generalize hPI : pyIter = PI
    wp_walk
    subst hPI
    refine wpAny_pyIter_list hl1 (wpAny_bind (wpAny_runValue ?_))
    have lS : l < s.heap.objs.size := Heap.lt_size hol
    have hz : (s.heap.push (newSet w)).objs.size = s.heap.objs.size + 1 := Heap.size_push ..
    have free : ∀ b, s.heap.objs.size ≤ b → s.heap.get? b = none := fun b hb => by
      cases q : s.heap.get? b with
      | none => rfl
      | some o => exact absurd (Nat.lt_of_lt_of_le (Heap.lt_size q) hb) (Nat.lt_irrefl _)
    refine fill G ((Walks.list (by simp [hh]) _ l (by rw [hz]; exact Nat.ne_of_lt (Nat.lt_succ_of_lt lS)) items).toS) s.heap.objs.size (fun z => ?_) ks size cap (fun i v hv => ?_) s.heap hk (free _ (Nat.le_refl _))
      (fun b hb => free b (by rw [List.mem_singleton.mp hb, hz]; exact Nat.le_succ _)) (hr _ ?_) (hr _ ?_) items.size 0 _ (Nat.zero_add _) ⟨⟨_, Heap.get?_push_size _ rfl, rfl, rfl⟩, (hl1.push _)⟩ (fun b o e => Heap.get?_push_of_some _ (Heap.get?_push_of_some _ e)) ?_ ?_
    · simp only [List.mem_cons, List.mem_singleton, List.not_mem_nil, or_false] at z
      rcases z with z | z
      · rw [hz] at z; exact absurd z (Nat.ne_of_lt (Nat.lt_succ_self _))
      · exact absurd z.symm (Nat.ne_of_lt lS)
    · have q : items.toList[i]? = some v := by rw [Array.getElem?_toList]; exact hv
      rw [hit, List.getElem?_map] at q
      cases hq : ks[i]? with
      | none => rw [hq] at q; cases q
      | some p => rw [hq] at q; exact ⟨p, rfl, (Option.some.inj q).symm⟩
    · have e : ∀ B : Around, B.in1.units = B.units + 1 := fun _ => rfl
      simp only [e]
      omega
    · have e : ∀ B : Around, B.in1.units = B.units + 1 := fun _ => rfl
      simp only [e]
      omega
    · exact ⟨[], 0, _, Lies.new (Heap.get?_push_of_some _ new), fun p hp => (by cases hp), fun p hp => (by simp at hp)⟩
    · rintro ⟨h', g2, d', tk', os'⟩ L ep t mv hL g k
      obtain rfl : g2 = s.gens := mv.gens
      obtain rfl : d' = s.drawn := mv.drawn
      obtain rfl : os' = s.os := mv.os
      refine wpAny_pure ?_
      rw [size] at g
      show wpAny _ _ (ret Value.none) _ _ _
      exact wpAny_pure ⟨rfl, h', tk', L, ep, t, rfl, hL, g, k⟩
  · rcases r2 with e | fl
    · exact hr2
    rcases fl with x | _ | _ | _
    any_goals exact hr2.elim
    obtain ⟨rfl, h', tk, L, ep, t, rfl, hL, g, k⟩ := hr2
    repeat (any_goals (first | assumption | wp_step))
    exact h _ _ _ _ _ hL g k
end
end L2.My
end
section
set_option Elab.async false
set_option linter.all false
set_option maxRecDepth 100000
set_option maxHeartbeats 8000000
namespace L2.My
open PySem PySem.Spec PyProof.Rows
/-! ### tuples that are led by a text, then ints: their order -/
abbrev OI := Int ⊕ List Nat
/-- the key as the library's order sees it -/
def oK : Key → OI
  | .inl i => .inl i
  | .inr x => .inr x.cps.toList
theorem oK_inj {a b : Key} (h : oK a = oK b) : a = b := by
  cases a <;> cases b <;> simp only [oK] at h
  · exact congrArg _ (Sum.inl.inj h)
  · cases h
  · cases h
  · rename_i x y
    have e : x.cps = y.cps := Array.toList_inj.mp (Sum.inr.inj h)
    cases x; cases y
    simp only at e
    rw [e]
theorem oKs_inj : ∀ {a b : List Key}, a.map oK = b.map oK → a = b
  | [], [], _ => rfl
  | x :: a, y :: b, h => by
    rw [List.map_cons, List.map_cons] at h
    obtain ⟨h1, h2⟩ := List.cons.inj h
    rw [oK_inj h1, oKs_inj h2]
/-- a text first, then ints alone -/
def led : Nat → Bool := fun i => i == 0
def Shp (f : List Key) : Prop := ∃ (z : Str) (is : List Int), f = .inr z :: is.map .inl
def ltF (f g : List Key) : Bool := lexLt itemOrd (f.map oK) (g.map oK)
theorem ltF_irr (f : List Key) : ltF f f = false := lex_irrefl _
theorem ltF_tr {f g h : List Key} (a : ltF f g = true) (b : ltF g h = true) : ltF f h = true := lex_trans _ _ _ a b
theorem ltF_tot {f g : List Key} (a : ltF f g = false) (b : ltF g f = false) : f = g := oKs_inj (lex_total _ _ a b)
theorem ltF_as {f g : List Key} (a : ltF f g = true) : ltF g f = false := by
  cases h : ltF g f with
  | false => rfl
  | true =>
    have z := ltF_tr a h
    rw [ltF_irr] at z
    cases z
theorem ltF_ntr {f g h : List Key} (a : ltF g f = false) (b : ltF h g = false) : ltF h f = false := by
  cases z : ltF h f with
  | false => rfl
  | true =>
    rcases lex_negTrans (O := itemOrd) _ (g.map oK) _ z with q | q
    · rw [show ltF h g = true from q] at b; cases b
    · rw [show ltF g f = true from q] at a; cases a
section
variable {prog : Program} {w : World} {A : Around} {E : Value → Shared → Prop} {s : Shared}
theorem mixShape {k : Key} {v : Value} (h : (mixKind prog w).is k v = true) : (∃ i t, k = Sum.inl i ∧ v = Value.int i t) ∨ (∃ x t, k = Sum.inr x ∧ v = Value.str x t) := keyIs_shape (k := k) (v := v) h
theorem items_led {i : Nat} (hi : 0 < i) : ∀ {is : List Int} {vs : List Value}, ItemsAre (mixKind prog w) (is.map Sum.inl) vs → tupItems led i vs = some (is.map Sum.inl)
  | [], _, .nil => by simp [tupItems]
  | n :: is, _, .cons h r => by
    rcases mixShape h with ⟨j, t, e, rfl⟩ | ⟨x, t, e, rfl⟩
    · cases e
      have z := items_led (i := i + 1) (by omega) r
      simp only [tupItems]
      rw [if_neg (by unfold led; simp; omega), z]
      rfl
    · cases e
theorem key_led {h : Heap} {f : List Key} {b : Addr} (hf : Shp f) (hk : IsTupleKey (mixKind prog w) h f b) : tupKey h led (.ref b) = some (f.map oK) := by
  obtain ⟨z, is, rfl⟩ := hf
  obtain ⟨o, xs, n, ho, hc, hd, hi⟩ := hk
  simp only [tupKey, ho, hd]
  generalize xs.toList = vs at hi
  cases hi with
  | cons h1 r =>
    rcases mixShape h1 with ⟨j, t, e, rfl⟩ | ⟨x, t, e, rfl⟩
    · cases e
    · cases e
      simp only [tupItems]
      rw [if_pos (by rfl), items_led (by decide) r]
      simp [oK, Function.comp_def]
/-- the key of a value, by a choice -/
theorem facts_sortable {a : Addr} {vs : List Value} {k : Value → List Key} (h2 : 2 ≤ vs.length) (hv : ∀ v ∈ vs, ∃ b, v = .ref b ∧ Shp (k v) ∧ IsTupleKey (mixKind prog w) s.heap (k v) b) (ha : ∀ o, s.heap.get? a = some o → o.cls ≠ .type "tuple") :
    SrtO.SortableO prog w A s a vs fun v u => ltF (k v) (k u) := by
  intro h' keep
  have hv' : ∀ v ∈ vs, ∃ b, v = .ref b ∧ Shp (k v) ∧ IsTupleKey (mixKind prog w) h' (k v) b := fun v m => by
    obtain ⟨b, e, sh, o, xs, n, ho, hc, r⟩ := hv v m
    exact ⟨b, e, sh, o, xs, n, keep b o (fun z => ha o (by rw [← z]; exact ho) hc) ho, hc, r⟩
  refine ⟨tuples' true, fun Q E hq => ?_, ?_⟩
  · have tup : ∀ us : List Value, (∀ v ∈ us, v ∈ vs) → ∃ fs, TupsOf h' led us fs ∧ fs.length = us.length := fun us => by
      induction us with
      | nil => exact fun _ => ⟨[], .nil, rfl⟩
      | cons v us ih =>
        intro hm
        obtain ⟨fs, t, l⟩ := ih fun u hu => hm u (List.mem_cons_of_mem _ hu)
        obtain ⟨b, e, ⟨z, is, e2⟩, o, xs, n, ho, hc, hd, hi⟩ := hv' v (hm v List.mem_cons_self)
        rw [e2] at hi
        obtain ⟨y, ys, exs⟩ : ∃ y ys, xs.toList = y :: ys := by
          cases q : xs.toList with
          | nil => rw [q] at hi; cases hi
          | cons y ys => exact ⟨y, ys, rfl⟩
        rw [exs] at hi
        cases hi with
        | cons h1 r =>
          refine ⟨y :: fs, .cons ⟨b, o, xs, n, e, ho, hc, hd, ?_, fun q => (by cases q), fun _ => ?_⟩ t, by rw [List.length_cons, List.length_cons, l]⟩
          · have z := congrArg (fun l : List Value => l[0]?) exs
            simpa using z
          · rcases mixShape h1 with ⟨j, t, e, rfl⟩ | ⟨x, t, e, rfl⟩
            · cases e
            · exact ⟨x, t, rfl⟩
    obtain ⟨fs, t, l⟩ := tup vs fun v m => m
    exact tup_kind (shape := led) (by omega) t hq
  · intro p q hp hq
    obtain ⟨b, e, sh, hk⟩ := hv' p.1 hp
    obtain ⟨b', e', sh', hk'⟩ := hv' q.1 hq
    refine tup_ltAt (shape := led) true A _ p.1 q.1 ((k p.1).map oK) ((k q.1).map oK) ?_ ?_ ?_
    · rw [e] at sh hk ⊢; exact key_led sh hk
    · rw [e'] at sh' hk' ⊢; exact key_led sh' hk'
    · exact ⟨rfl, rfl⟩
theorem facts_swo (k : Value → List Key) : SrtO.Swo fun v u => ltF (k v) (k u) := ⟨fun x y h => ltF_as h, fun x y z a b => ltF_ntr a b⟩
end
end L2.My
end
section
set_option Elab.async false
set_option linter.all false
set_option maxRecDepth 100000
set_option maxHeartbeats 8000000
namespace L2.My
open PySem PySem.Spec PyProof.Rows
abbrev MK (P : Program) (w : World) : HeapKind P w (List Key) := tupleKind (mixKind P w)
section
variable {P : Program} {w : World}
theorem mix_cls {v : Value} {k : Key} (h : (mixKind P w).is k v = true) (n : Nat) : ofAClassStatement n v = pure false ∧ ∃ b, hashByValue n v = pure b := by
  rcases mixShape h with ⟨i, t, _, rfl⟩ | ⟨x, t, _, rfl⟩ <;> cases n <;> exact ⟨rfl, _, rfl⟩
theorem mix_items {f : List Key} {vs : List Value} (h : ItemsAre (mixKind P w) f vs) : ∀ v ∈ vs, ∃ k, (mixKind P w).is k v = true := by
  induction h with
  | nil => exact fun v hv => nomatch hv
  | cons h1 _ ih =>
    intro v hv
    rcases List.mem_cons.mp hv with rfl | hv
    · exact ⟨_, h1⟩
    · exact ih v hv
theorem mk_able : Able (MK P w) where
  cls := fun {A E s k b Q} hk h => by
    have ty := IsTupleKey.typeIs hk
    obtain ⟨o, items, n, ho, _, hd, hi⟩ := hk
    unfold ofAClassStatement
    refine wpAny_bind (wpAny_typeOf ty ?_)
    have e : (("tuple" : String) == "tuple") = true := by decide
    simp only [e, if_true, Bool.not_true, Bool.false_eq_true, if_false]
    try refine wpAny_bind (wpAny_pure ?_)
    try simp only [Bool.not_true, Bool.false_eq_true, if_false]
    change wpAny _ _ (seqItems? (.ref b) >>= _) _ _ s
    refine wpAny_bind (wpAny_seqItems ho hd ?_)
    dsimp only
    refine wpAny_bind ?_
    change wpAny _ _ (forIn items _ _) _ _ s
    rw [← Array.forIn_toList]
    refine wpAny_forIn_list _ (fun l r s' => (r.1 = none ∧ s' = s) ∧ ∀ v ∈ l, ∃ k, (mixKind P w).is k v = true) _ ?_ ?_ _ _ ⟨⟨rfl, rfl⟩, mix_items hi⟩
    · rintro v l r s' ⟨⟨e1, e2⟩, H⟩
      obtain ⟨k, hk⟩ := H v List.mem_cons_self
      rw [(mix_cls hk _).1]
      refine wpAny_bind (wpAny_pure ?_)
      simp only [Bool.false_eq_true, if_false]
      exact wpAny_pure ⟨⟨rfl, e2⟩, fun u hu => H u (List.mem_cons_of_mem _ hu)⟩
    · rintro ⟨r1, r2⟩ s' ⟨⟨e1, e2⟩, _⟩
      subst e2
      cases e1
      exact wpAny_pure h
  byv := fun {A E s k b Q} hk h => by
    have ty := IsTupleKey.typeIs hk
    obtain ⟨o, items, n, ho, _, hd, hi⟩ := hk
    unfold hashByValue
    refine wpAny_bind (wpAny_specialOf ty F.slot_tuple_hash.lookup ?_)
    change wpAny _ _ (seqItems? (.ref b) >>= _) _ _ s
    refine wpAny_bind (wpAny_seqItems ho hd (wpAny_bind ?_))
    change wpAny _ _ (forIn items _ _) _ _ s
    rw [← Array.forIn_toList]
    refine wpAny_forIn_list _ (fun l r s' => ((r.1 = none ∨ ∃ b, r.1 = some b) ∧ s' = s) ∧ ∀ v ∈ l, ∃ k, (mixKind P w).is k v = true) _ ?_ ?_ _ _ ⟨⟨.inl rfl, rfl⟩, mix_items hi⟩
    · rintro v l r s' ⟨⟨e1, e2⟩, H⟩
      obtain ⟨k, hk⟩ := H v List.mem_cons_self
      obtain ⟨b, hb⟩ := (mix_cls hk 7).2
      rw [hb]
      refine wpAny_bind (wpAny_pure ?_)
      cases b
      · simp only [Bool.not_false, if_true]
        subst e2
        exact wpAny_pure (wpAny_pure (h false))
      · simp only [Bool.not_true, Bool.false_eq_true, if_false]
        exact wpAny_pure ⟨⟨.inl rfl, e2⟩, fun u hu => H u (List.mem_cons_of_mem _ hu)⟩
    · rintro ⟨r1, r2⟩ s' ⟨⟨e1, e2⟩, _⟩
      subst e2
      rcases e1 with e1 | ⟨b, e1⟩
      · cases e1
        exact wpAny_pure (h _)
      · cases e1
        exact wpAny_pure (h _)
  keep := fun {h h' k b d o es ep t} hk ho hd hs => by
    obtain ⟨o', items, n, ho', hc, hd', hi⟩ := hk
    have ne : b ≠ d := fun e => by
      subst e
      rw [ho] at ho'
      cases ho'
      rw [hd] at hd'
      cases hd'
    exact ⟨o', items, n, (hs.2 b ne).trans ho', hc, hd', hi⟩
  ext := fun {h h' k b} hk q => by
    obtain ⟨o, items, n, ho, r⟩ := hk
    exact ⟨o, items, n, q b o ho, r⟩
end
/-! ### sorted, of whatever gives tuples that are led by a text -/
def Fac (P : Program) (w : World) (h : Heap) (k : Value → List Key) (v : Value) : Prop := ∃ b, v = .ref b ∧ Shp (k v) ∧ IsTupleKey (mixKind P w) h (k v) b
section
variable {prog : Program} {w : World} {A : Around} {E : Value → Shared → Prop} {s : Shared}
theorem sorted_core {x : Value} {k : Value → List Key} {R : Shared → Prop} {Vs : List Value → Prop} {Q : Value → Shared → Prop}
    (hc : ∀ (Q' : List Value → Shared → Prop), (∀ s1 vs, (∀ b o, s.heap.get? b = some o → s1.heap.get? b = some o) → R s1 → Vs vs → Q' vs s1) → wpAny (model prog w) A.in1 (collect x) Q' E s)
    (hV : ∀ vs, Vs vs → vs.length ≤ sizeLine ∧ ∀ v ∈ vs, Fac prog w s.heap k v)
    (h : ∀ s1 h2 p vs (out : List Value) c, (∀ b o, s.heap.get? b = some o → s1.heap.get? b = some o) → R s1 → (∀ b o, s1.heap.get? b = some o → h2.get? b = some o) → s1.heap.objs.size ≤ p → h2.get? p = some (seqObj "list" out.toArray c) → Vs vs →
      SrtO.Srtd (fun v u => ltF (k v) (k u)) out → out.Perm vs → Q (.ref p) { s1 with heap := h2 }) : wpAny (model prog w) A (call (.builtin "sorted") [x]) Q E s := by
  refine Calls.call_function_entry PyProof.Rows.kind_sorted PyProof.Rows.plain_sorted PyProof.Rows.entry_sorted (PyProof.Rows.args_sorted1 _) ?_
  unfold Builtin.«sorted»
  refine wpAny_bind (m := checkCount "sorted" 1 1 _) (wpAny_pure (wpAny_bind (hc _ fun s1 vs k1 r1 hvs => ?_)))
  obtain ⟨hl, hf⟩ := hV vs hvs
  refine wpAny_bind (wpAny_newList ?_ hl)
  have hoL : (s1.heap.push (seqObj "list" vs.toArray 0)).get? s1.heap.objs.size = some (seqObj "list" vs.toArray 0) := Heap.get?_push_size _ rfl
  have k2 : ∀ b o, s.heap.get? b = some o → (s1.heap.push (seqObj "list" vs.toArray 0)).get? b = some o := fun b o e => Heap.get?_push_of_some _ (k1 b o e)
  have fac : ∀ v ∈ vs, ∃ b, v = .ref b ∧ Shp (k v) ∧ IsTupleKey (mixKind prog w) (s1.heap.push (seqObj "list" vs.toArray 0)) (k v) b := fun v hv => by
    obtain ⟨b, e, sh, kk⟩ := hf v hv
    exact ⟨b, e, sh, (mk_able (P := prog) (w := w)).ext kk k2⟩
  refine wpAny_bind (wpAny_holding (wpAny_call_entry PyProof.Rows.slot_list_sort ⟨_, hoL, rfl⟩ PyProof.Rows.entry_list_sort (SrtO.list_sort_ord (s := { s1 with heap := s1.heap.push (seqObj "list" vs.toArray 0) }) (facts_swo k) hoL hl
    (fun h2 => facts_sortable h2 fac fun o e => ?_) fun out h1 h2 => ⟨_, rfl, ?_⟩) (PyProof.Rows.args_list_sort _)))
  · rw [hoL] at e
    cases e
    intro c
    exact absurd (Value.type.inj c) (by decide)
  · obtain ⟨c, hc'⟩ := PyProof.Rows.sortedHeap_at (vs := vs) (out := out.toArray) hoL
    refine wpAny_pure ⟨_, rfl, h s1 _ s1.heap.objs.size vs out c k1 r1 (fun b o e => ?_) (Nat.le_refl _) hc' hvs h1 h2.perm⟩
    have hb : b < s1.heap.objs.size := Heap.lt_size e
    rw [PyProof.Rows.sortedHeap_old (Nat.ne_of_lt hb) (by rw [size_push']; exact Nat.lt_succ_of_lt hb)]
    exact Heap.get?_push_of_some _ e
end
end L2.My
end
section
set_option Elab.async false
set_option linter.all false
set_option maxRecDepth 100000
set_option maxHeartbeats 8000000
namespace L2.My
open PySem PySem.Spec PyProof.Rows
/-- a tuple of ints and texts -/
abbrev TupAt (H : Hp) (b : Addr) (f : List Key) : Prop := H b = some (.tup (f.map kV))
theorem few_of {α : Type} [DecidableEq α] : ∀ (l D : List α), l.Nodup → (∀ x ∈ l, x ∈ D) → l.length ≤ D.length
  | [], _, _, _ => Nat.zero_le _
  | x :: l, D, h, hD => by
    obtain ⟨h1, h2⟩ := List.nodup_cons.mp h
    have hx := hD x List.mem_cons_self
    have z := few_of l (D.erase x) h2 fun y hy => (List.mem_erase_of_ne (fun e => h1 (by rw [← e]; exact hy))).mpr (hD y (List.mem_cons_of_mem _ hy))
    rw [List.length_erase_of_mem hx] at z
    have := List.length_pos_of_mem hx
    simp only [List.length_cons]
    omega
/-- the key that a value has at a heap -/
noncomputable def keyOn (P : Program) (w : World) (h : Heap) (v : Value) : List Key := open Classical in if q : ∃ f b, v = .ref b ∧ IsTupleKey (mixKind P w) h f b then q.choose else []
theorem keyOn_eq {P : Program} {w : World} {h : Heap} {b : Addr} {f : List Key} (x : IsTupleKey (mixKind P w) h f b) : keyOn P w h (.ref b) = f := by
  have q : ∃ f b', Value.ref b = .ref b' ∧ IsTupleKey (mixKind P w) h f b' := ⟨f, b, rfl, x⟩
  unfold keyOn
  rw [dif_pos q]
  obtain ⟨b', e, y⟩ := q.choose_spec
  cases e
  exact y.inj x
def adr : Value → Addr
  | .ref b => b
  | _ => 0
theorem adr_ref (bs : List Addr) : (bs.map Value.ref).map adr = bs := by
  induction bs with
  | nil => rfl
  | cons b bs ih => rw [List.map_cons, List.map_cons, ih]; rfl
theorem refs_adr {out : List Value} (h : ∀ v ∈ out, ∃ b, v = .ref b) : out = (out.map adr).map Value.ref := by
  induction out with
  | nil => rfl
  | cons v out ih =>
    obtain ⟨b, rfl⟩ := h v List.mem_cons_self
    rw [List.map_cons, List.map_cons, ← ih fun u hu => h u (List.mem_cons_of_mem _ hu)]
    rfl
section
variable {X : Cx} {pins : List (Addr × Obj)} {σ : St} {H : Hp} {s : Shared} {A : Around} {E : Value → Shared → Prop}
theorem fac_of (I : Inv X pins σ H s) {b : Addr} {f : List Key} (h : TupAt H b f) (sh : Shp f) : Fac X.prog X.w s.heap (keyOn X.prog X.w s.heap) (.ref b) ∧ keyOn X.prog X.w s.heap (.ref b) = f := by
  have k := key_of I.hok h
  have e := keyOn_eq k
  exact ⟨⟨b, rfl, by rw [e]; exact sh, by rw [e]; exact k⟩, e⟩
/-- sorted of what gives these tuples, in any order -/
theorem sorted_rule (I : Inv X pins σ H s) {x : Value} {bs : List Addr} {R : Shared → Prop} {Q : VK} (hz : bs.length ≤ sizeLine) (key : Addr → List Key) (hk : ∀ b ∈ bs, TupAt H b (key b) ∧ Shp (key b))
    (hc : ∀ (Q' : List Value → Shared → Prop), (∀ s1 vs, (∀ b o, s.heap.get? b = some o → s1.heap.get? b = some o) → R s1 → vs.Perm (bs.map Value.ref) → Q' vs s1) → wpAny (model X.prog X.w) A.in1 (collect x) Q' E s)
    (inv : ∀ s1 h2 p (xs : List V) (its : List Value) c, (∀ b o, s.heap.get? b = some o → s1.heap.get? b = some o) → R s1 → (∀ b o, s1.heap.get? b = some o → h2.get? b = some o) → s1.heap.objs.size ≤ p → xs.length ≤ sizeLine → Vals xs its → h2.get? p = some (seqObj "list" its.toArray c) →
      H p = none ∧ Inv X pins σ (upd H p (.lst xs)) { s1 with heap := h2 })
    (q : ∀ (bs' : List Addr) (p : Addr), bs'.Perm bs → (bs'.map key).Pairwise (fun f g => ltF g f = false) → H p = none → Q (.ref p) (upd H p (.lst (bs'.map V.ref)))) :
    wpAny (model X.prog X.w) A (call (.builtin "sorted") [x]) (fun v s' => ∃ y H', Inv X pins σ H' s' ∧ RelV y v ∧ Q y H') E s := by
  have ke : ∀ b ∈ bs, keyOn X.prog X.w s.heap (.ref b) = key b := fun b hb => (fac_of I (hk b hb).1 (hk b hb).2).2
  refine sorted_core (k := keyOn X.prog X.w s.heap) (Vs := fun vs => vs.Perm (bs.map Value.ref)) hc (fun vs hvs => ⟨by rw [hvs.length_eq, List.length_map]; exact hz, fun v hv => ?_⟩) fun s1 h2 p vs out c k1 r1 k2 hp hat hvs h1 h2 => ?_
  · obtain ⟨b, hb, rfl⟩ := List.mem_map.mp (hvs.mem_iff.mp hv)
    exact (fac_of I (hk b hb).1 (hk b hb).2).1
  · have hall : ∀ v ∈ out, ∃ b, v = .ref b := fun v hv => by
      obtain ⟨b, _, e⟩ := List.mem_map.mp (hvs.mem_iff.mp (h2.mem_iff.mp hv))
      exact ⟨b, e.symm⟩
    have eo := refs_adr hall
    have perm : (out.map adr).Perm bs := by
      have z := (h2.trans hvs).map adr
      rw [adr_ref] at z
      exact z
    generalize out.map adr = bs' at eo perm
    subst eo
    obtain ⟨hn, J⟩ := inv s1 _ p (bs'.map V.ref) (bs'.map Value.ref) c k1 r1 k2 hp (by rw [List.length_map, perm.length_eq]; exact hz) (vals_refs bs') hat
    refine ⟨.ref p, _, J, rfl, q bs' p perm ?_ hn⟩
    refine List.pairwise_map.mpr (List.Pairwise.imp_of_mem (fun {a b} ha hb z => ?_) (List.pairwise_map.mp h1))
    have z' : ltF (keyOn X.prog X.w s.heap (.ref b)) (keyOn X.prog X.w s.heap (.ref a)) = false := z
    rw [ke a (perm.mem_iff.mp ha), ke b (perm.mem_iff.mp hb)] at z'
    exact z'
end
end L2.My
end
section
set_option Elab.async false
set_option linter.all false
set_option maxRecDepth 100000
set_option maxHeartbeats 8000000
namespace L2.My
open PySem PySem.Spec PyProof.Rows
def unV : V → Option Key
  | .int i => some (.inl i)
  | .str x => some (.inr x)
  | _ => none
def keyH (H : Hp) (b : Addr) : List Key := match H b with
  | some (.tup xs) => xs.filterMap unV
  | _ => []
theorem keyH_eq {H : Hp} {b : Addr} {f : List Key} (h : TupAt H b f) : keyH H b = f := by
  unfold keyH
  rw [show H b = some (.tup (f.map kV)) from h]
  show (f.map kV).filterMap unV = f
  rw [List.filterMap_map]
  have e : (unV ∘ kV) = some := funext fun k => by cases k <;> rfl
  rw [e, List.filterMap_some]
abbrev UpF (fs : List (List Key)) : Prop := fs.Pairwise fun f g => ltF g f = false
theorem keysH {H : Hp} {bs : List Addr} {fs : List (List Key)} (h : Paired (TupAt H) bs fs) : bs.map (keyH H) = fs := by
  induction h with
  | nil => rfl
  | cons h1 _ ih => rw [List.map_cons, keyH_eq h1, ih]
theorem pairH {H : Hp} {bs : List Addr} (h : ∀ b ∈ bs, TupAt H b (keyH H b)) : Paired (TupAt H) bs (bs.map (keyH H)) := by
  induction bs with
  | nil => exact .nil
  | cons b bs ih => exact .cons (h b List.mem_cons_self) (ih fun c hc => h c (List.mem_cons_of_mem _ hc))
theorem inH {H : Hp} {bs : List Addr} {fs : List (List Key)} (h : Paired (TupAt H) bs fs) : ∀ b ∈ bs, TupAt H b (keyH H b) ∧ keyH H b ∈ fs := by
  induction h with
  | nil => exact fun b hb => nomatch hb
  | cons h1 _ ih =>
    intro b hb
    rcases List.mem_cons.mp hb with rfl | hb
    · rw [keyH_eq h1]; exact ⟨h1, List.mem_cons_self⟩
    · exact ⟨(ih b hb).1, List.mem_cons_of_mem _ (ih b hb).2⟩
/-- what is told of a sorted list of tuples -/
def SortQ (H : Hp) (fs : List (List Key)) (Q : VK) : Prop := ∀ (bs' : List Addr) (fs' : List (List Key)) (p : Addr), Paired (TupAt H) bs' fs' → fs'.Perm fs → UpF fs' → H p = none → Q (.ref p) (upd H p (.lst (bs'.map V.ref)))
theorem sortQ_of {H : Hp} {bs : List Addr} {fs : List (List Key)} {Q : VK} (h : Paired (TupAt H) bs fs) (q : SortQ H fs Q) (bs' : List Addr) (p : Addr) (hp : bs'.Perm bs) (hu : (bs'.map (keyH H)).Pairwise (fun f g => ltF g f = false)) (hn : H p = none) :
    Q (.ref p) (upd H p (.lst (bs'.map V.ref))) := by
  refine q bs' (bs'.map (keyH H)) p (pairH fun b hb => (inH h b (hp.mem_iff.mp hb)).1) ?_ hu hn
  have z := hp.map (keyH H)
  rw [keysH h] at z
  exact z
theorem paired_len {α β : Type} {R : α → β → Prop} {xs : List α} {ys : List β} (h : Paired R xs ys) : xs.length = ys.length := Paired.length h
section
variable {X : Cx}
/-- sorted(xs), xs a list of tuples that are led by a text -/
def rSortLT (K : PySem.W.Frag) : List V → Hp → VK → Prop := fun vs H Q => ∃ (a : Addr) (bs : List Addr) (fs : List (List Key)), vs = [V.ref a] ∧ SqL K H a (bs.map V.ref) ∧ Paired (TupAt H) bs fs ∧ (∀ f ∈ fs, Shp f) ∧ SortQ H fs Q
theorem cr_sortLT : CallR X (.builtin "sorted") (rSortLT X.K) := by
  intro pins s σ H vs us Q I r h
  obtain ⟨a, bs, fs, rfl, hs, hp, sh, q⟩ := h
  obtain ⟨its, rv, hl, hz⟩ := I.list hs
  rw [Vals.ref1 r]
  have e : its = bs.map Value.ref := by
    clear hs hp q hl hz
    induction bs generalizing its with
    | nil => cases rv; rfl
    | cons b bs ih =>
      rw [List.map_cons] at rv
      cases rv with
      | cons r1 r2 => rw [ih _ r2, show _ = _ from r1, List.map_cons]
  subst e
  rw [List.length_map] at hz
  refine sorted_rule (R := fun s1 => ∃ h' tk, s1 = { s with heap := h', toks := tk } ∧ s.heap.objs.size ≤ h'.objs.size) I hz (keyH H) (fun b hb => ⟨(inH hp b hb).1, sh _ (inH hp b hb).2⟩) (fun Q' z => ?_) (fun s1 h2 p xs its c k1 r1 k2 hp hz2 hv hg => ?_) (sortQ_of hp q)
  · refine collect_list hl.isList ?_ (by rw [List.length_map]; exact hz)
    refine z _ _ (fun b o e => ?_) ⟨_, _, rfl, ?_⟩ (.refl _)
    · show ((s.heap.push (seqObj "list" #[] 0)).update s.heap.objs.size _).get? b = some o
      rw [Heap.get?_update_ne _ _ _ _ (Nat.ne_of_lt (Heap.lt_size e))]
      exact Heap.get?_push_of_some _ e
    · rw [Heap.size_update, size_push']; exact Nat.le_succ _
  · obtain ⟨h', tk, rfl, hz3⟩ := r1
    have hsz : s.heap.objs.size ≤ p := Nat.le_trans hz3 hp
    exact ⟨I.hok.fresh hsz, I.laid (t' := tk) (fun b o e => k2 b o (k1 b o e)) hsz ⟨hz2, its, c, hv, hg⟩⟩
/-- sorted(d), d a dict whose keys are such tuples -/
def rSortDT : List V → Hp → VK → Prop := fun vs H Q => ∃ (a : Addr) (kvs : List (List Key × V)), vs = [V.ref a] ∧ Rd H a (.dT kvs) ∧ (∀ f ∈ kvs.map (·.1), Shp f) ∧ SortQ H (kvs.map (·.1)) Q
theorem cr_sortDT (hc : X.calm = true) : CallR X (.builtin "sorted") rSortDT := by
  intro pins s σ H vs us Q I r h
  obtain ⟨a, kvs, rfl, hd, sh, q⟩ := h
  rw [Vals.ref1 r]
  obtain ⟨z, hs, ks, pr, o, es, ep, ho, hx, hdt, he, hn⟩ := (show ObjOk X.prog X.w H s.heap a (.dT kvs) from hd.ok I.hok)
  have l1 : es.size = ks.length := by rw [← Array.length_toList, he, List.length_map]
  have l2 : kvs.length = ks.length := Paired.length pr
  have prs : Paired (TupAt H) (ks.map (·.2.1)) (kvs.map (·.1)) := by
    clear sh q hd z he hn l1 l2
    induction pr with
    | nil => exact .nil
    | cons h1 _ ih => exact .cons h1.2.1 ih
  refine sorted_rule (R := fun s1 => ∃ h' tk, s1 = { s with heap := h', toks := tk }) I (bs := ks.map (·.2.1)) (by rw [List.length_map]; omega) (keyH H) (fun b hb => ⟨(inH prs b hb).1, sh _ (inH prs b hb).2⟩) (fun Q' zz => ?_) (fun s1 h2 p xs its c k1 r1 k2 hp hz2 hv hg => ?_) (sortQ_of prs q)
  · refine PySem.W.kdu_collect (kdl_raw hs hx hdt) (I.ok.hd hc) ho (by omega) fun h' tk acc kp it => ?_
    refine zz _ _ kp ⟨h', tk, rfl⟩ ?_
    have ea : acc.toList = (ks.map (·.2.1)).map Value.ref := by
      rw [List.map_map]
      refine List.ext_getElem? fun j => ?_
      rw [List.getElem?_map]
      have hes : es[j]? = (ks[j]?).map (entryOfKey (tupleKind (mixKind X.prog X.w))) := by rw [← Array.getElem?_toList, he, List.getElem?_map]
      cases hj : acc.toList[j]? with
      | none =>
        have z1 := List.getElem?_eq_none_iff.mp hj
        rw [Array.length_toList, it.1, l1] at z1
        rw [List.getElem?_eq_none z1]
        rfl
      | some v =>
        obtain ⟨en, hen, rfl⟩ := it.2 j v (by rw [← Array.getElem?_toList]; exact hj)
        rw [hes] at hen
        cases hb : ks[j]? with
        | none => rw [hb] at hen; cases hen
        | some b => rw [hb] at hen; cases hen; rfl
    rw [ea]
  · obtain ⟨h', tk, rfl⟩ := r1
    have I1 : Inv X pins σ H { s with heap := h', toks := tk } := I.kept k1
    exact ⟨I1.hok.fresh hp, I1.laid (t' := tk) k2 hp ⟨hz2, its, c, hv, hg⟩⟩
end
/-! ### the set -/
structure Lies0 (P : Program) (w : World) (h : Heap) (a : Addr) (L : List (Addr × List Key)) : Prop where
  ex : ∃ ep t, (∃ o, h.get? a = some o ∧ o.ExactSet ∧ o.data = .set (ent (MK P w) L).toArray ep t) ∧ TabOk t (hsh (MK P w) L) ∧ (L.map (·.2)).Nodup ∧ (w.params.followText "set-order" = true ∨ t.led = true) ∧ L.length * 5 < t.mask * 3 ∧ L.length < 64
def SetF (P : Program) (w : World) (a : Addr) (L : List (Addr × List Key)) : HO := .ext fun h => Lies0 P w h a L
section
variable {X : Cx}
def rSetF (K : PySem.W.Frag) (P : Program) (w : World) : List V → Hp → VK → Prop := fun xs H Q => ∃ (l : Addr) (bs : List Addr) (fs D : List (List Key)), xs = [V.ref l] ∧ SqL K H l (bs.map V.ref) ∧ Paired (TupAt H) bs fs ∧ (∀ f ∈ fs, f ∈ D) ∧ D.length + 1 < 64 ∧
  ∀ a L, H a = none → (∀ p ∈ L, TupAt H p.1 p.2 ∧ p.2 ∈ fs) → (∀ f ∈ fs, f ∈ L.map (·.2)) → (L.map (·.2)).Nodup → Q (.ref a) (upd H a (SetF P w a L))
theorem cr_setF (hc : X.calm = true) (hu : X.A.units + 64 < cLine) : CallR X (.type "set") (rSetF X.K X.prog X.w) := by
  intro pins s σ H xs us Q I r h
  obtain ⟨l, bs, fs, D, rfl, hl, hp, hD, hf, q⟩ := h
  rw [Vals.ref1 r]
  obtain ⟨its, rv, pl, hz⟩ := I.list hl
  have e : its = bs.map Value.ref := by
    clear hl hp q pl hz
    induction bs generalizing its with
    | nil => cases rv; rfl
    | cons b bs ih =>
      rw [List.map_cons] at rv
      cases rv with
      | cons r1 r2 => rw [ih _ r2, show _ = _ from r1, List.map_cons]
  subst e
  have hn : H s.heap.objs.size = none := I.hok.fresh (Nat.le_refl _)
  have good : ∀ p ∈ bs.map fun b => (b, keyH H b), TupAt H p.1 p.2 ∧ p.2 ∈ fs := fun p hpm => by
    obtain ⟨b, hb, rfl⟩ := List.mem_map.mp hpm
    exact inH hp b hb
  refine makeSet (mk_able (P := X.prog) (w := X.w)) (bs.map fun b => (b, keyH H b)) (I.ok.hd hc) pl.isList (by simp) (fun p hpm => key_of I.hok (good p hpm).1) (fun L hL nd => ?_) (fun B hB => (by show B.units < cLine; omega)) fun h' tk L ep t R g k => ?_
  · have z := few_of (L.map (·.2)) D nd fun f hf => by
      obtain ⟨p, hp1, rfl⟩ := List.mem_map.mp hf
      exact hD _ (good p (hL p hp1)).2
    rw [List.length_map] at z
    omega
  · have inL : ∀ p ∈ L, p ∈ bs.map fun b => (b, keyH H b) := fun p hp1 => List.mem_of_mem_take (g.1 p hp1)
    refine ⟨.ref s.heap.objs.size, upd H s.heap.objs.size (SetF X.prog X.w s.heap.objs.size L), I.laid (t' := tk) k (Nat.le_refl _) ?_, rfl, q _ L hn (fun p hp1 => good p (inL p hp1)) (fun f hf => ?_) R.nd⟩
    · have R0 : Lies0 X.prog X.w h' s.heap.objs.size L := ⟨ep, t, R.obj, R.tab, R.nd, R.led, R.room, R.few⟩
      obtain ⟨o, ho, _⟩ := R.obj
      refine ⟨R0, ⟨o, ho⟩, fun h1 h2 p kk => ?_⟩
      obtain ⟨ep', t', ⟨o', ho', r'⟩, q'⟩ := Lies0.ex p
      exact ⟨ep', t', ⟨o', kk o' ho', r'⟩, q'⟩
    · rw [← keysH hp] at hf
      obtain ⟨b, hb, rfl⟩ := List.mem_map.mp hf
      exact g.2 (b, keyH H b) (by rw [List.take_length]; exact List.mem_map.mpr ⟨b, hb, rfl⟩)
/-- sorted(set) -/
def rSortSF (P : Program) (w : World) : List V → Hp → VK → Prop := fun vs H Q => ∃ (a : Addr) (L : List (Addr × List Key)), vs = [V.ref a] ∧ H a = some (SetF P w a L) ∧ (∀ p ∈ L, TupAt H p.1 p.2 ∧ Shp p.2) ∧ SortQ H (L.map (·.2)) Q
theorem cr_sortSF (hc : X.calm = true) : CallR X (.builtin "sorted") (rSortSF X.prog X.w) := by
  intro pins s σ H vs us Q I r h
  obtain ⟨a, L, rfl, ha, hL, q⟩ := h
  rw [Vals.ref1 r]
  have R0 : Lies0 X.prog X.w s.heap a L := (I.hok a _ ha).1
  obtain ⟨ep, t, ⟨o, ho, hex, hd⟩, T, nd, ld, room, few⟩ := R0.ex
  have hp : Paired (TupAt H) (L.map (·.1)) (L.map (·.2)) := by
    clear q T nd room few hd ho ha R0
    induction L with
    | nil => exact .nil
    | cons p L ih => exact .cons (hL p List.mem_cons_self).1 (ih fun p hp => hL p (List.mem_cons_of_mem _ hp))
  have sh : ∀ f ∈ L.map (·.2), Shp f := fun f hf => by
    obtain ⟨p, hp, rfl⟩ := List.mem_map.mp hf
    exact (hL p hp).2
  refine sorted_rule (R := fun s1 => s.heap.objs.size ≤ s1.heap.objs.size ∧ s1.gens = s.gens ∧ s1.os = s.os) I (bs := L.map (·.1)) (by rw [List.length_map, sizeLine_eq]; omega) (keyH H) (fun b hb => ⟨(inH hp b hb).1, sh _ (inH hp b hb).2⟩) (fun Q' zz => ?_) (fun s1 h2 p xs its c k1 r1 k2 hp1 hz2 hv hg => ?_) (sortQ_of hp q)
  · refine collect_set (A := X.A.in1) (I.ok.hd hc) ⟨o, ho, hex.1, hd⟩ (lies_fits T (by omega)) (by rw [ent_len]; unfold scanBound; omega) T.ris ld fun s1 vs k1 hz g1 o1 pm => zz s1 vs k1 ⟨hz, g1, o1⟩ ?_
    have e : (ent (MK X.prog X.w) L).toArray.toList.map (·.2) = (L.map (·.1)).map Value.ref := by
      unfold ent
      simp [Function.comp_def]
    rw [e] at pm
    exact pm
  · obtain ⟨r1, r2, r3⟩ := r1
    have hsz : s.heap.objs.size ≤ p := Nat.le_trans r1 hp1
    have hn := I.hok.fresh hsz
    have kk : ∀ b o, s.heap.get? b = some o → h2.get? b = some o := fun b o e => k2 b o (k1 b o e)
    exact ⟨hn, I.call' (ch := []) (s' := { s1 with heap := h2 }) r3 (Un.laid kk hsz hn) (I.hok.laid kk hsz ⟨hz2, its, c, hv, hg⟩) (by rw [show ({ s1 with heap := h2 } : Shared).gens = s.gens from r2]; exact I.bare) fun _ z => nomatch z⟩
end
end L2.My
end
section
set_option Elab.async false
set_option linter.all false
set_option maxRecDepth 100000
set_option maxHeartbeats 4000000
namespace L2.My
open PySem PySem.Spec PyProof.Rows
abbrev nFc : List Str := ["self", "fact", "found", "body", "head", "ground"]
section
variable {X : Cx}
theorem ps_setDcT2 {i : Nat} {y : Str} {py : Pos} {kx vx tg iter tg1 iter1 : Expr} {ifs ifs1 : List Expr} {scope : Scope} {own : List (Str × Nat)} {vs1 : List Nat} {pos spos : Pos} {wi wi1 : TI} {g g1 : TG} {tt tt1 : TT} {tk tv : TE} (hu : X.A.units + 2 < cLine) (hc : X.calm = true) (hN : X.N.Nodup) (hy : X.N[i]? = some y) (hyl : X.env.scope.names.lookup y = some .local)
    (hsw : swapsWith (.DictComp kx vx [⟨tg, iter, ifs, 0⟩, ⟨tg1, iter1, ifs1, 0⟩] scope pos) (some (.Name y py)) spos.line X.env = pure true) (hi : PI X tg iter wi) (ok : BlkOk X.N X.env.scope scope own) (hv : ∀ i ∈ vs1, i ∈ own.map (·.2))
    (hg : ∀ (s : Shared) (H : Hp) (C : Addr) (cl : List (Str × Addr)) (fp : List Addr), PG (X.blk s H scope (compEnvC scope cl C X.env) fp) tg g) (ht : ∀ (s : Shared) (H : Hp) (C : Addr) (cl : List (Str × Addr)) (fp : List Addr), PTs (X.blk s H scope (compEnvC scope cl C X.env) fp) ifs tt)
    (hi1 : ∀ (s : Shared) (H : Hp) (C : Addr) (cl : List (Str × Addr)) (fp : List Addr), PI (X.blk s H scope (compEnvC scope cl C X.env) fp) tg1 iter1 wi1)
    (hg1 : ∀ (s : Shared) (H : Hp) (C : Addr) (cl : List (Str × Addr)) (fp : List Addr), PG (X.blk s H scope (compEnvC scope cl C X.env) fp) tg1 g1) (ht1 : ∀ (s : Shared) (H : Hp) (C : Addr) (cl : List (Str × Addr)) (fp : List Addr), PTs (X.blk s H scope (compEnvC scope cl C X.env) fp) ifs1 tt1)
    (hk : ∀ (s : Shared) (H : Hp) (C : Addr) (cl : List (Str × Addr)) (fp : List Addr), PE (X.blk s H scope (compEnvC scope cl C X.env) fp) kx tk)
    (he : ∀ (s : Shared) (H : Hp) (C : Addr) (cl : List (Str × Addr)) (fp : List Addr), PE (X.blk s H scope (compEnvC scope cl C X.env) fp) vx tv) (hs : ∀ x, foldedSetIterable iter X.env x = pure x := by intro _; rfl) (hs1 : ∀ (env : Env) (x : Value), foldedSetIterable iter1 env x = pure x := by intro _ _; rfl) :
    PS X (.Assign [.Name y py] (.DictComp kx vx [⟨tg, iter, ifs, 0⟩, ⟨tg1, iter1, ifs1, 0⟩] scope pos) spos) (tAsg (tDcT2 wi g tt wi1 g1 tt1 tk tv (own.map (·.2)) vs1) (gName i)) := by
  refine ⟨fun pins s σ H D I h => ?_⟩
  rw [exec_Assign_Name_used _ _ _ _ hsw]
  refine wpAny_bind (wpAny_standAt (wpAny_bind ?_))
  show wpAny _ X.A (do let _ ← comprehension (.DictComp kx vx [⟨tg, iter, ifs, 0⟩, ⟨tg1, iter1, ifs1, 0⟩] scope pos) scope X.env (firstIterPos [⟨tg, iter, ifs, 0⟩, ⟨tg1, iter1, ifs1, 0⟩] pos) newDict false (eval iter X.env) (some (assign (.Name y py) X.env))) _ _ s
  have h : tDcT2 wi g tt wi1 g1 tt1 tk tv (own.map (·.2)) vs1 σ H (fun x H1 => gName i x σ H1 D.nx) := h
  refine wpAny_bind (thn (dc_coreT2 (Qf := fun _ s' => SP X pins D .next s') hu hc hN I hi ok hv hg ht hi1 hg1 ht1 hk he hs hs1 h fun L C s' m H' I' q hn f => ?_) fun _ s' hq => wpAny_pure (wpAny_pure hq))
  show wpAny _ _ (assign (.Name y py) X.env (.ref L)) _ _ _
  refine wpAny_assign_Name (store_ok2 (v := V.ref L) I' hN hy (.inl hyl) rfl (fun s2 I2 ⟨a, sb, ha⟩ => ?_) (.inr hyl))
  obtain ⟨f0, f1, f2, f3, f4, f5⟩ := f
  have haC : C ≠ a := by
    rcases ha with z | z
    · rw [z]; exact f1
    · exact fun e => f4 y a z e.symm
  refine ⟨m, hn.sameBut sb haC, fun h3 sb3 => ?_⟩
  exact ⟨_, H', I2.turned (t' := s2.toks) (fun b o hb e => (sb3.2 b hb).trans e) f0 f1 f3 f4 f5, q⟩
end
def InnD (J1 : It) (g1 : TG) (tt1 : TT) (tk tv : TE) (vs1 : List Nat) (σ2 : St) (D : Addr) (Nx : Hp → Prop) (H4 : Hp) : Prop := ∃ W1 : Nat → Nat → Hp → Prop, (∃ k, W1 0 k H4) ∧ ∀ j k H, W1 j k H →
      (J1.stop j H ∧ Nx H) ∨ (J1.go j H ∧ ∃ Nx1 : Hp → Prop, (∀ H', Nx1 H' → ∃ k', k' < k ∧ W1 (j + 1) k' H') ∧ ∀ x H', J1.yld j H x H' → g1 x (wipe σ2 vs1) H' fun σ3 H5 => wipe σ3 vs1 = wipe σ2 vs1 ∧ tt1 σ3 H5 fun b H6 =>
        if b = true then tk σ3 H6 fun y H7 => tv σ3 H7 fun z H8 => ∃ kvs k b, y = .ref b ∧ H8 D = some (.dT kvs) ∧ H8 b = some (.tup (k.map kV)) ∧ kvs.length < sizeLine ∧ Nx1 (upd H8 D (.dT (putK kvs k z))) else Nx1 H6)
section
variable {J : It} {n : Nat} {G : Hp → Prop} {Y : Nat → Hp → V → Hp → Prop}
theorem innD_it (w : Walk J n G Y) {g1 : TG} {tt1 : TT} {tk tv : TE} {vs1 : List Nat} {σ2 : St} {D : Addr} {Nx : Hp → Prop} {H4 : Hp} (Pv : Nat → Hp → Prop) (h0 : Pv 0 H4) (hG : ∀ i H, i ≤ n → Pv i H → G H)
    (hs : ∀ i x H H', i < n → Pv i H → Y i H x H' → g1 x (wipe σ2 vs1) H' fun σ3 H5 => wipe σ3 vs1 = wipe σ2 vs1 ∧ tt1 σ3 H5 fun b H6 =>
        if b = true then tk σ3 H6 fun y H7 => tv σ3 H7 fun z H8 => ∃ kvs k b, y = .ref b ∧ H8 D = some (.dT kvs) ∧ H8 b = some (.tup (k.map kV)) ∧ kvs.length < sizeLine ∧ Pv (i + 1) (upd H8 D (.dT (putK kvs k z))) else Pv (i + 1) H6)
    (hd : ∀ H, Pv n H → Nx H) : InnD J g1 tt1 tk tv vs1 σ2 D Nx H4 := by
  refine ⟨fun i m H => i + m = n ∧ Pv i H, ⟨n, by omega, h0⟩, fun i m H ⟨e, h⟩ => ?_⟩
  have gi := hG i H (by omega) h
  by_cases hi : i < n
  · exact .inr ⟨w.goes i H hi gi, fun H' => Pv (i + 1) H', fun H' h' => ⟨m - 1, by omega, by omega, h'⟩, fun x H' y => hs i x H H' hi h (w.yields i H x H' hi gi y)⟩
  · obtain rfl : i = n := by omega
    exact .inl ⟨w.stops H gi, hd H h⟩
theorem dc2_it (w : Walk J n G Y) {g : TG} {tt : TT} {wi1 : TI} {g1 : TG} {tt1 : TT} {tk tv : TE} {vs vs1 : List Nat} {σ : St} {H1 : Hp} {D : Addr} {Qd : Hp → Prop} (Pv : Nat → Hp → Prop) (h0 : Pv 0 (upd H1 D (.dT []))) (hG : ∀ i H, i ≤ n → Pv i H → G H)
    (hs : ∀ i x H H', i < n → Pv i H → Y i H x H' → g x (wipe σ vs) H' fun σ2 H2 => wipe σ2 vs = wipe σ vs ∧ tt σ2 H2 fun b H3 => if b = true then wi1 σ2 H3 fun J1 H4 => InnD J1 g1 tt1 tk tv vs1 σ2 D (Pv (i + 1)) H4 else Pv (i + 1) H3)
    (hd : ∀ H, Pv n H → Qd H) : ∃ W : Nat → Nat → Hp → Prop, (∃ m, W 0 m (upd H1 D (.dT []))) ∧ ∀ i m H, W i m H →
  (J.stop i H ∧ Qd H) ∨ (J.go i H ∧ ∃ Nx : Hp → Prop, (∀ H', Nx H' → ∃ m', m' < m ∧ W (i + 1) m' H') ∧ ∀ x H', J.yld i H x H' → g x (wipe σ vs) H' fun σ2 H2 => wipe σ2 vs = wipe σ vs ∧ tt σ2 H2 fun b H3 =>
    if b = true then wi1 σ2 H3 fun J1 H4 => ∃ W1 : Nat → Nat → Hp → Prop, (∃ k, W1 0 k H4) ∧ ∀ j k H, W1 j k H →
      (J1.stop j H ∧ Nx H) ∨ (J1.go j H ∧ ∃ Nx1 : Hp → Prop, (∀ H', Nx1 H' → ∃ k', k' < k ∧ W1 (j + 1) k' H') ∧ ∀ x H', J1.yld j H x H' → g1 x (wipe σ2 vs1) H' fun σ3 H5 => wipe σ3 vs1 = wipe σ2 vs1 ∧ tt1 σ3 H5 fun b H6 =>
        if b = true then tk σ3 H6 fun y H7 => tv σ3 H7 fun z H8 => ∃ kvs k b, y = .ref b ∧ H8 D = some (.dT kvs) ∧ H8 b = some (.tup (k.map kV)) ∧ kvs.length < sizeLine ∧ Nx1 (upd H8 D (.dT (putK kvs k z))) else Nx1 H6)
    else Nx H3) := by
  refine ⟨fun i m H => i + m = n ∧ Pv i H, ⟨n, by omega, h0⟩, fun i m H ⟨e, h⟩ => ?_⟩
  have gi := hG i H (by omega) h
  by_cases hi : i < n
  · exact .inr ⟨w.goes i H hi gi, fun H' => Pv (i + 1) H', fun H' h' => ⟨m - 1, by omega, by omega, h'⟩, fun x H' y => hs i x H H' hi h (w.yields i H x H' hi gi y)⟩
  · obtain rfl : i = n := by omega
    exact .inl ⟨w.stops H gi, hd H h⟩
end
/-! ### all facts of a rule -/
structure KP (kvs : List (Fc × V)) (S : Fc → Prop) (N : Nat) : Prop where
  nd : (kvs.map (·.1)).Nodup
  mem : ∀ f, f ∈ kvs.map (·.1) ↔ S f
  len : kvs.length ≤ N
theorem KP.put {kvs : List (Fc × V)} {S S' : Fc → Prop} {N N' : Nat} {k : Fc} {v : V} (h : KP kvs S N) (hS : ∀ f, S' f ↔ S f ∨ f = k) (hN : N + 1 ≤ N') : KP (putK kvs k v) S' N' := by
  have e := keys_putK (kvs := kvs) (k := k) (v := v)
  refine ⟨?_, fun f => ?_, Nat.le_trans (length_putK kvs k v) (by have := h.len; omega)⟩
  · rw [e]
    split
    · exact h.nd
    · rename_i hn
      rw [List.nodup_append]
      refine ⟨h.nd, by simp, fun a ha b hb => ?_⟩
      rw [List.mem_singleton.mp hb]
      rintro rfl
      exact hn ha
  · rw [e, hS f]
    split
    · rename_i hm
      rw [h.mem f]
      constructor
      · exact .inl
      · rintro (z | z)
        · exact z
        · rw [z]; exact (h.mem k).mp hm
    · rw [List.mem_append, List.mem_singleton, h.mem f]
def DP (H : Hp) (D : Addr) (S : Fc → Prop) (N : Nat) : Prop := ∃ kvs : List (Fc × V), H D = some (.dT kvs) ∧ KP kvs S N
theorem DP.same {H H' : Hp} {D : Addr} {S : Fc → Prop} {N : Nat} (h : DP H D S N) (s : Same H H') : DP H' D S N := let ⟨k, h1, h2⟩ := h; ⟨k, s _ _ h1, h2⟩
theorem DP.ext {H : Hp} {D : Addr} {S S' : Fc → Prop} {N N' : Nat} (h : DP H D S N) (e : ∀ f, S' f ↔ S f) (hN : N ≤ N') : DP H D S' N' := let ⟨k, h1, h2⟩ := h; ⟨k, h1, h2.nd, fun f => (h2.mem f).trans (e f).symm, Nat.le_trans h2.len hN⟩
def InGs (gs : List (List Fc)) (i : Nat) (f : Fc) : Prop := ∃ j g, j < i ∧ gs[j]? = some g ∧ f ∈ g
def InCs (cs : List Cz) (i : Nat) (f : Fc) : Prop := ∃ j c, j < i ∧ cs[j]? = some c ∧ (f = c.2 ∨ f ∈ c.1)
/-- all facts of a rule -/
def AllR (cs : List Cz) (gs : List (List Fc)) (f : Fc) : Prop := InGs gs gs.length f ∨ InCs cs cs.length f
theorem inGs_succ {gs : List (List Fc)} {i : Nat} {g : List Fc} {f : Fc} (h : gs[i]? = some g) : InGs gs (i + 1) f ↔ InGs gs i f ∨ f ∈ g := by
  constructor
  · rintro ⟨j, g', hj, hg, hf⟩
    rcases Nat.lt_succ_iff_lt_or_eq.mp hj with z | z
    · exact .inl ⟨j, g', z, hg, hf⟩
    · rw [z, h] at hg; cases hg; exact .inr hf
  · rintro (⟨j, g', hj, hg, hf⟩ | hf)
    · exact ⟨j, g', Nat.lt_succ_of_lt hj, hg, hf⟩
    · exact ⟨i, g, Nat.lt_succ_self _, h, hf⟩
theorem inCs_succ {cs : List Cz} {i : Nat} {c : Cz} {f : Fc} (h : cs[i]? = some c) : InCs cs (i + 1) f ↔ InCs cs i f ∨ (f = c.2 ∨ f ∈ c.1) := by
  constructor
  · rintro ⟨j, g', hj, hg, hf⟩
    rcases Nat.lt_succ_iff_lt_or_eq.mp hj with z | z
    · exact .inl ⟨j, g', z, hg, hf⟩
    · rw [z, h] at hg; cases hg; exact .inr hf
  · rintro (⟨j, g', hj, hg, hf⟩ | hf)
    · exact ⟨j, g', Nat.lt_succ_of_lt hj, hg, hf⟩
    · exact ⟨i, c, Nat.lt_succ_self _, h, hf⟩
theorem allR_gf {cs : List Cz} {gs : List (List Fc)} (h : GQ cs gs) {f : Fc} (hf : AllR cs gs f) : GF f := by
  rcases hf with ⟨j, g, _, hg, hf⟩ | ⟨j, c, _, hc, hf⟩
  · exact h.gr g (List.mem_of_getElem? hg) f hf
  · have := h.cl c (List.mem_of_getElem? hc)
    rcases hf with rfl | hf
    · exact this.2
    · exact this.1 f hf
theorem GF.shp {f : Fc} (h : GF f) : Shp f := by
  obtain ⟨z, is, e, _⟩ := h
  exact ⟨z, is, e⟩
/-- the facts of a rule, ascending, each once -/
def AllF (H : Hp) (l : Addr) (cs : List Cz) (gs : List (List Fc)) : Prop := ∃ (as : List Addr) (fs : List Fc), H l = some (.lst (as.map .ref)) ∧ Paired (FactAt H) as fs ∧ UpF fs ∧ fs.Nodup ∧ (∀ f, f ∈ fs ↔ AllR cs gs f) ∧ fs.length ≤ 100000
def spFacR (C : Addr) : Sp := fun vs H Q _ => ∃ x dx ca ga cs gs, vs = [.ref x] ∧ RuleAt H C x dx ca ga cs gs ∧ GR cs gs ∧ ∀ H' l, Same H H' → H l = none → AllF H' l cs gs → Q (.ref l) H'
section
variable {P : Program} {w : World} {K : PySem.W.Frag} {mg : Str → Option Value} {base : Heap} {C : Addr}
theorem scFc : FnScope nFc ["self"] (defScope (mR 2)) := ⟨rfl, rfl, rfl, by decide +kernel, rfl, by decide +kernel, by decide +kernel⟩
theorem ok_facR {f : Addr} {fd : FuncData} {k : Nat} (F : Fun K "facts" "Rule.facts" (mR 2) f fd) (T : Tx mg) (c : RuC K C) : FnOk P w K mg base CX0 (k + 1) f fd ["self"] (spFacR C) := by
  refine F.ok scFc (fun vs H Q E h => ?_) (fun cdv A outer s H vs Q E hr h => ?_)
  · obtain ⟨x, dx, ca, ga, cs, gs, rfl, _⟩ := h
    rfl
  · obtain ⟨x, dx, ca, ga, cs, gs, rfl, ⟨hx, ⟨cas, hca, hcp⟩, ⟨gas, hga, hgp⟩⟩, hG, q⟩ := h
    refine ⟨_, (pss_cons (ps_setDcT2 (own := [("ground", 5), ("fact", 1)]) (i := 2) (vs1 := [1]) (g := gName 5) (g1 := gName 1) (wi1 := iTup K (tVar 5)) (tk := tVar 1) (tv := tC (.bl true)) (u2 hr) rfl scFc.nd rfl rfl (sw_trueD rfl rfl rfl (by decide +kernel)) (pi_tup (pe_fld (pv 0) rfl)) (blkOk_by (N := nFc) (sc := defScope (mR 2)) (by decide +kernel)) (by decide)
          (fun _ _ _ _ _ => pg_name (i := 5) scFc.nd rfl (Or.inl rfl)) (fun _ _ _ _ _ => pts_nil) (fun _ _ _ _ _ => (pi_tup (pv 5))) (fun _ _ _ _ _ => pg_name (i := 1) scFc.nd rfl (Or.inl rfl)) (fun _ _ _ _ _ => pts_nil) (fun _ _ _ _ _ => (pv 1)) (fun _ _ _ _ _ => pe_bl)) (pss_cons (ps_for PassesOwn.never rfl (pi_tup (pe_fld (pv 0) rfl)) (pg_tup rfl (pgs_cons (pg_name (i := 3) scFc.nd rfl (Or.inl rfl)) (pgs_cons (pg_name (i := 4) scFc.nd rfl (Or.inl rfl)) pgs_nil))) (pss_cons (ps_asg pe_bl (pg_sub (pv 2) (pv 4) (set_dict (u1 hr)))) (pss_one (ps_for PassesOwn.never rfl (pi_tup (pv 3)) (pg_name (i := 1) scFc.nd rfl (Or.inl rfl)) (pss_one (ps_asg pe_bl (pg_sub (pv 2) (pv 1) (set_dict (u1 hr))))))))) (pss_one (ps_ret (pe_callB (cr_sortDT rfl) (by rfl) T.sorted_ (by decide +kernel) (pa_cons (pv 2) pa_nil)))))), ?_⟩
    have lg := Paired.len hgp
    have lc := Paired.len hcp
    have hng := hG.ng
    have hnc := hG.nc
    refine ⟨_, rfl, x, C, dx, _, _, rfl, hx, c.cls, c.na _ (by simp), rfl, ga, rfl, ⟨_, .of hga⟩, fun D nD => ?_⟩
    refine dc2_it walk_tup (fun i G => Same H G ∧ DP G D (InGs gs i) (1000 * i)) ⟨same_upd nD, [], upd_same, by simp, fun f => by simp [InGs], Nat.zero_le _⟩ (fun i G _ h => .of (h.1 _ _ hga)) ?_ ?_
    · rintro i v G G' hi ⟨sm, hd⟩ ⟨rfl, hv⟩
      rw [List.length_map, lg] at hi
      obtain ⟨pg, hpg, rfl⟩ := ref_at hv
      obtain ⟨g, hg, fas, hfa, hfp⟩ := Paired.at' hgp hpg
      have lf := Paired.len hfp
      have gl := hG.nf g (List.mem_of_getElem? hg)
      refine ⟨rfl, _, rfl, pg, rfl, ⟨_, .of (sm _ _ hfa)⟩, ?_⟩
      refine innD_it (walk_tup (xs := fas.map V.ref)) (fun j G3 => Same H G3 ∧ DP G3 D (fun f => InGs gs i f ∨ ∃ m, m < j ∧ g[m]? = some f) (1000 * i + j)) ⟨sm, hd.ext (fun f => ⟨fun h => h.elim id fun ⟨m, hm, _⟩ => absurd hm (Nat.not_lt_zero _), .inl⟩) (by omega)⟩ (fun j G3 _ h => .of (h.1 _ _ hfa)) ?_ ?_
      · rintro j v2 G3 G3' hj ⟨sm3, kvs, h1, h2⟩ ⟨rfl, hv2⟩
        rw [List.length_map, lf] at hj
        obtain ⟨pf, hpf, rfl⟩ := ref_at hv2
        obtain ⟨f0, hf0, hff⟩ := Paired.at' hfp hpf
        have hl := h2.len
        refine ⟨rfl, _, rfl, kvs, f0, pf, rfl, h1, sm3 _ _ hff, Nat.lt_of_le_of_lt (show kvs.length ≤ 1000000 by omega) (by decide), same_put sm3 nD, _, upd_same, h2.put (fun f => ?_) (Nat.le_refl _)⟩
        constructor
        · rintro (z | ⟨m, hm, e⟩)
          · exact .inl (.inl z)
          · rcases Nat.lt_succ_iff_lt_or_eq.mp hm with y | y
            · exact .inl (.inr ⟨m, y, e⟩)
            · rw [y, hf0] at e; exact .inr (Option.some.inj e).symm
        · rintro ((z | ⟨m, hm, e⟩) | rfl)
          · exact .inl z
          · exact .inr ⟨m, Nat.lt_succ_of_lt hm, e⟩
          · exact .inr ⟨j, Nat.lt_succ_self _, hf0⟩
      · rintro G3 ⟨sm3, hd3⟩
        rw [List.length_map, lf] at hd3
        refine ⟨sm3, hd3.ext (fun f => ?_) (by omega)⟩
        rw [inGs_succ hg]
        constructor
        · rintro (z | z)
          · exact .inl z
          · obtain ⟨m, hm, e⟩ := List.getElem_of_mem z
            exact .inr ⟨m, hm, by rw [List.getElem?_eq_getElem hm, e]⟩
        · rintro (z | ⟨m, _, e⟩)
          · exact .inl z
          · exact .inr (List.mem_of_getElem? e)
    · rintro G ⟨sm, hd⟩
      rw [List.length_map, lg] at hd
      refine ⟨_, rfl, x, C, dx, _, _, rfl, sm _ _ hx, c.cls, c.na _ (by simp), rfl, ca, rfl, ⟨_, .of (sm _ _ hca)⟩, ?_⟩
      refine for_it (walk_tup (xs := cas.map V.ref)) (fun i σ G => ∃ y1 y3 y4, σ = [some (.ref x), y1, some (.ref D), y3, y4, none] ∧ Same H G ∧ DP G D (fun f => InGs gs gs.length f ∨ InCs cs i f) (60000 + 5 * i)) ⟨_, _, _, rfl, sm, hd.ext (fun f => ⟨fun h => h.elim id fun ⟨m, _, hm, _⟩ => absurd hm (Nat.not_lt_zero _), .inl⟩) (by omega)⟩ (fun i σ G _ h => ?_) ?_ ?_
      · obtain ⟨_, _, _, rfl, sm, _⟩ := h
        exact .of (sm _ _ hca)
      · rintro i v σ G G' hi ⟨y1, y3, y4, rfl, sm, kvs, h1, h2⟩ ⟨rfl, hv⟩
        rw [List.length_map, lc] at hi
        obtain ⟨pc, hpc, rfl⟩ := ref_at hv
        obtain ⟨c0, hc0, pb, ph, hpc2, ⟨bs, hbs, hbp⟩, hph⟩ := Paired.at' hcp hpc
        have gc := hG.cl c0 (List.mem_of_getElem? hc0)
        have lb := Paired.len hbp
        have g4 := gc.1
        have hl := h2.len
        refine ⟨pc, _, rfl, .of (sm _ _ hpc2), rfl, _, _, rfl, _, _, rfl, rfl, ?_⟩
        refine ⟨_, rfl, _, rfl, D, _, rfl, .inr ⟨kvs, c0.2, ph, h1, rfl, sm _ _ hph, Nat.lt_of_le_of_lt (show kvs.length ≤ 1000000 by omega) (by decide), rfl⟩, ?_⟩
        have sm2 : Same H (upd G' D (.dT (putK kvs c0.2 (.bl true)))) := same_put sm nD
        have d2 : DP (upd G' D (.dT (putK kvs c0.2 (.bl true)))) D (fun f => (InGs gs gs.length f ∨ InCs cs i f) ∨ f = c0.2) (60000 + 5 * i + 1) := ⟨_, upd_same, h2.put (fun f => Iff.rfl) (Nat.le_refl _)⟩
        generalize hG2 : upd G' D (.dT (putK kvs c0.2 (.bl true))) = G2 at *
        refine ⟨_, rfl, pb, rfl, ⟨_, .of (sm2 _ _ hbs)⟩, ?_⟩
        refine for_it (walk_tup (xs := bs.map V.ref)) (fun j σ G => ∃ y1, σ = [some (.ref x), y1, some (.ref D), some (.ref pb), some (.ref ph), none] ∧ Same H G ∧ DP G D (fun f => ((InGs gs gs.length f ∨ InCs cs i f) ∨ f = c0.2) ∨ ∃ m, m < j ∧ c0.1[m]? = some f) (60000 + 5 * i + 1 + j)) ⟨_, rfl, sm2, d2.ext (fun f => ⟨fun h => h.elim id fun ⟨m, hm, _⟩ => absurd hm (Nat.not_lt_zero _), .inl⟩) (by omega)⟩ (fun j σ G _ h => ?_) ?_ ?_
        · obtain ⟨_, rfl, sm, _⟩ := h
          exact .of (sm _ _ hbs)
        · rintro j v2 σ G3 G3' hj ⟨y1, rfl, sm3, kvs3, e1, e2⟩ ⟨rfl, hv2⟩
          rw [List.length_map, lb] at hj
          obtain ⟨pf, hpf, rfl⟩ := ref_at hv2
          obtain ⟨f0, hf0, hff⟩ := Paired.at' hbp hpf
          have hl3 := e2.len
          refine ⟨_, rfl, _, rfl, D, _, rfl, .inr ⟨kvs3, f0, pf, e1, rfl, sm3 _ _ hff, Nat.lt_of_le_of_lt (show kvs3.length ≤ 1000000 by omega) (by decide), rfl⟩, ?_⟩
          refine ⟨_, rfl, same_put sm3 nD, _, upd_same, e2.put (fun f => ?_) (Nat.le_refl _)⟩
          constructor
          · rintro (z | ⟨m, hm, e⟩)
            · exact .inl (.inl z)
            · rcases Nat.lt_succ_iff_lt_or_eq.mp hm with y | y
              · exact .inl (.inr ⟨m, y, e⟩)
              · rw [y, hf0] at e; exact .inr (Option.some.inj e).symm
          · rintro ((z | ⟨m, hm, e⟩) | rfl)
            · exact .inl z
            · exact .inr ⟨m, Nat.lt_succ_of_lt hm, e⟩
            · exact .inr ⟨j, Nat.lt_succ_self _, hf0⟩
        · rintro σ G3 ⟨y1, rfl, sm3, d3⟩
          rw [List.length_map, lb] at d3
          refine ⟨_, _, _, rfl, sm3, d3.ext (fun f => ?_) (by omega)⟩
          rw [inCs_succ hc0]
          constructor
          · rintro (z | z | rfl | z)
            · exact .inl (.inl (.inl z))
            · exact .inl (.inl (.inr z))
            · exact .inl (.inr rfl)
            · obtain ⟨m, hm, e⟩ := List.getElem_of_mem z
              exact .inr ⟨m, hm, by rw [List.getElem?_eq_getElem hm, e]⟩
          · rintro (((z | z) | rfl) | ⟨m, _, e⟩)
            · exact .inl z
            · exact .inr (.inl z)
            · exact .inr (.inr (.inl rfl))
            · exact .inr (.inr (.inr (List.mem_of_getElem? e)))
      · rintro σ G ⟨y1, y3, y4, rfl, sm, kvs, h1, h2⟩
        rw [List.length_map, lc] at h2
        refine ⟨_, rfl, D, kvs, rfl, .inl h1, fun f hf => (allR_gf hG.q ((h2.mem f).mp hf)).shp, fun bs' fs' p hp hperm hup hn => ?_⟩
        have s6 := same_upd (o := HO.lst (bs'.map V.ref)) hn
        refine q _ p (sm.trans s6) (sm.free hn) ⟨bs', fs', upd_same, Paired.mapP hp fun _ _ z => s6 _ _ z, hup, hperm.nodup_iff.mpr h2.nd, fun f => hperm.mem_iff.trans (h2.mem f), ?_⟩
        have := h2.len
        rw [hperm.length_eq, List.length_map]
        omega
end
end L2.My
end
section
set_option Elab.async false
set_option linter.all false
set_option maxRecDepth 100000
set_option maxHeartbeats 4000000
namespace L2.My
open PySem PySem.Spec PyProof.Rows
abbrev sParts : Stmt := top 28
abbrev nPt : List Str := ["hand", "most", "grounds", "pool", "clauses", "found", "turn", "size", "k"]
/-- all facts are of a few -/
structure PF (Dp : List Fc) (cs : List Cz) (gs : List (List Fc)) : Prop where
  dl : Dp.length ≤ 30
  cl : ∀ c ∈ cs, (∀ f ∈ c.1, f ∈ Dp) ∧ c.2 ∈ Dp
  gr : ∀ g ∈ gs, ∀ f ∈ g, f ∈ Dp
  nc : cs.length ≤ 200
  nf : ∀ g ∈ gs, g.length ≤ 3
abbrev GFD (Dp : List Fc) (f : Fc) : Prop := GF f ∧ f ∈ Dp
abbrev GCD (Dp : List Fc) (c : Cz) : Prop := c.1.length ≤ 4 ∧ (∀ f ∈ c.1, GFD Dp f) ∧ GFD Dp c.2
def spParts : Sp := fun vs H Q _ => ∃ (b g : Addr) (m n : Int), vs = [.ref b, .int m, .int n] ∧ HandAt H b g ∧ 0 < m ∧ m ≤ 100 ∧ 0 ≤ n ∧ n ≤ 60 ∧ ∀ H' p ca ga cs gs, BL [b] H H' → HandAt H' b g → H' p = some (.tup [.ref ca, .ref ga]) → ClsAt H' ca cs → GrsAt H' ga gs → GR cs gs → gs.length = n.toNat → (∃ Dp, PF Dp cs gs) → Q (.ref p) H'
section
variable {Dp : List Fc} {b g pl D : Addr} {a1 a2 a4 a5 a6 a7 a8 : Option V} {n : Nat} {H1 : Hp} {Qd : Hp → Prop}
theorem PoolAt.any {H : Hp} {l : Addr} {N : Nat} (h : PoolAt H l Dp N) : ∃ xs : List V, H l = some (.lst xs) ∧ xs ≠ [] ∧ xs.length ≤ N ∧ ∀ v ∈ xs, ∃ p f, v = .ref p ∧ FactAt H p f ∧ GFD Dp f := by
  obtain ⟨as, p1, p2, p3, p4, p5⟩ := h
  have la := Paired.len p2
  refine ⟨_, p1, fun e => ?_, by rw [List.length_map]; omega, fun v hv => ?_⟩
  · have := congrArg List.length e
    rw [List.length_map, List.length_nil] at this
    omega
  · obtain ⟨i, hi⟩ := List.getElem?_of_mem hv
    obtain ⟨a, ha, rfl⟩ := ref_at hi
    obtain ⟨f, hf, hff⟩ := Paired.at' p2 ha
    exact ⟨a, f, rfl, hff, p3 f (List.mem_of_getElem? hf), List.mem_of_getElem? hf⟩
theorem PoolAt.few {H : Hp} {l : Addr} {N : Nat} (h : PoolAt H l Dp N) : Dp.length ≤ N := by
  obtain ⟨_, _, _, _, _, h⟩ := h
  exact h
theorem comp_facts (hB : HandAt H1 b g) (hP : PoolAt H1 pl Dp 30) (npb : pl ≠ b) (nD : H1 D = none) (hn : n ≤ 100) (hd : ∀ G as fs, BL [b] H1 G → HandAt G b g → G D = some (.lst (as.map .ref)) → Paired (FactAt G) as fs → (∀ f ∈ fs, GFD Dp f) → fs.length = n → Qd G) :
    CompOut (Itr 0 n) (gName 8) tYes (tCall spAny [] E0 (tCons (tVar 0) (tCons (tVar 3) tNil))) [8] [some (.ref b), a1, a2, some (.ref pl), a4, a5, a6, a7, a8] D Qd H1 := by
  have nDb := hB.nb nD
  have nDg := hB.ng nD
  have npD : pl ≠ D := fun e => by
    obtain ⟨_, h, _⟩ := hP
    rw [e, nD] at h; cases h
  refine lc_it (walk_range (lo := 0)) (fun i G => BL [b] H1 G ∧ HandAt G b g ∧ PoolAt G pl Dp 30 ∧ ∃ as fs, G D = some (.lst (as.map .ref)) ∧ Paired (FactAt G) as fs ∧ (∀ f ∈ fs, GFD Dp f) ∧ fs.length = i) ⟨.same (same_upd nD), hB.same (same_upd nD), hP.tk (.same (same_upd nD)) (fun xs e => same_upd nD _ _ e), [], [], upd_same, .nil, by simp, rfl⟩ (fun i G _ _ => trivial) ?_ ?_
  · rintro i y G G' hi ⟨bl, hBg, hPg, as, fs, h1, h2, h3, h4⟩ ⟨rfl, rfl⟩
    obtain ⟨xs, x1, x2, x3, x4⟩ := hPg.any
    refine ⟨rfl, _, rfl, _, rfl, b, g, pl, xs, rfl, hBg, x1, npb, x2, by omega, fun H5 v bl5 hB5 hv => ?_⟩
    obtain ⟨p, f, rfl, hf, gf⟩ := x4 v hv
    have tk5 := hBg.tk bl5
    have h15 := bl5 _ _ (by simpa using nDb) h1
    have la := Paired.len h2
    have tkA : TK H5 (upd H5 D (.lst (as.map V.ref ++ [.ref p]))) := TK.upd h15 (fun xs e => nomatch e)
    have tkB := TK.trans tk5 tkA
    refine ⟨_, h15, by rw [List.length_map]; exact Nat.lt_of_le_of_lt (show as.length ≤ 100 by omega) (by decide), BL.put (bl.trans bl5) nD, hB5.put nDb nDg, (hPg.tk tk5 (fun xs e => bl5 _ _ (by simpa using npb) e)).tk tkA (fun xs e => by rw [upd_ne npD]; exact e), as ++ [p], fs ++ [f], by rw [upd_same, List.map_append]; rfl, Paired.snoc (Paired.mapP h2 fun _ _ z => z.tk tkB) (hf.tk tkB), fun x hx => ?_, by rw [List.length_append, List.length_singleton, h4]⟩
    rcases List.mem_append.mp hx with h | h
    · exact h3 x h
    · rw [List.mem_singleton.mp h]; exact gf
  · rintro G ⟨bl, hBg, hPg, as, fs, h1, h2, h3, h4⟩
    exact hd G as fs bl hBg h1 h2 h3 h4
end
/-- where parts stand while they are made -/
structure PtI (b g pl cl fl : Addr) (Dp : List Fc) (H G : Hp) (n : Nat) : Prop where
  bl : BL [b] H G
  hb : HandAt G b g
  po : PoolAt G pl Dp 30
  cs : ∃ cas cs, G cl = some (.lst (cas.map .ref)) ∧ Paired (ClAt G) cas cs ∧ (∀ c ∈ cs, GCD Dp c) ∧ cs.length ≤ n
  fl : G fl = some (.lst [])
theorem PtI.step {Dp : List Fc} {b g pl cl fl : Addr} {H G G' : Hp} {n : Nat} (h : PtI b g pl cl fl Dp H G n) (s : BL [b] G G') (hb : HandAt G' b g) (n1 : pl ≠ b) (n2 : cl ≠ b) (n3 : fl ≠ b) : PtI b g pl cl fl Dp H G' n := by
  have tk := h.hb.tk s
  refine ⟨h.bl.trans s, hb, h.po.tk tk (fun xs e => s _ _ (by simpa using n1) e), ?_, s _ _ (by simpa using n3) h.fl⟩
  obtain ⟨cas, cs, h1, h2, h3⟩ := h.cs
  exact ⟨cas, cs, s _ _ (by simpa using n2) h1, Paired.mapP h2 fun _ _ z => z.tk tk, h3⟩
theorem PtI.app {Dp : List Fc} {b g pl cl fl : Addr} {H G : Hp} {n : Nat} {cas : List Addr} {cs : List Cz} {p : Addr} {c : Cz} (h : PtI b g pl cl fl Dp H G n) (h1 : G cl = some (.lst (cas.map .ref))) (h2 : Paired (ClAt G) cas cs) (h3 : ∀ c ∈ cs, GCD Dp c) (h4 : cs.length ≤ n) (hp : ClAt G p c) (gc : GCD Dp c) (n0 : H cl = none) (n1 : cl ≠ b) (n2 : cl ≠ g) (n3 : pl ≠ cl) (n4 : fl ≠ cl) :
    PtI b g pl cl fl Dp H (L2.upd G cl (.lst (cas.map V.ref ++ [.ref p]))) (n + 1) := by
  have tk : TK G (L2.upd G cl (.lst (cas.map V.ref ++ [.ref p]))) := TK.upd h1 (fun xs e => nomatch e)
  refine ⟨BL.put h.bl n0, h.hb.put n1 n2, h.po.tk tk (fun xs e => by rw [upd_ne n3]; exact e), ⟨cas ++ [p], cs ++ [c], by rw [upd_same, List.map_append]; rfl, Paired.snoc (Paired.mapP h2 fun _ _ z => z.tk tk) (hp.tk tk), fun x hx => ?_, by rw [List.length_append, List.length_singleton]; omega⟩, by rw [upd_ne n4]; exact h.fl⟩
  rcases List.mem_append.mp hx with z | z
  · exact h3 x z
  · rw [List.mem_singleton.mp z]; exact gc
theorem PtI.up {Dp : List Fc} {b g pl cl fl : Addr} {H G : Hp} {n m : Nat} (h : PtI b g pl cl fl Dp H G n) (hm : n ≤ m) : PtI b g pl cl fl Dp H G m := by
  obtain ⟨cas, cs, h1, h2, h3, h4⟩ := h.cs
  exact ⟨h.bl, h.hb, h.po, ⟨cas, cs, h1, h2, h3, Nat.le_trans h4 hm⟩, h.fl⟩
structure PtJ (b g pl cl fl : Addr) (Dp : List Fc) (H G : Hp) (n : Nat) : Prop where
  bl : BL [b] H G
  hb : HandAt G b g
  po : PoolAt G pl Dp 30
  cs : ∃ cas cs, G cl = some (.lst (cas.map .ref)) ∧ Paired (ClAt G) cas cs ∧ (∀ c ∈ cs, GCD Dp c) ∧ cs.length ≤ 200
  fl : ∃ gas gs, G fl = some (.lst (gas.map .ref)) ∧ Paired (FactsAt G) gas gs ∧ (∀ x ∈ gs, x.length ≤ 3 ∧ ∀ f ∈ x, GFD Dp f) ∧ gs.length = n
theorem PtJ.step {Dp : List Fc} {b g pl cl fl : Addr} {H G G' : Hp} {n : Nat} (h : PtJ b g pl cl fl Dp H G n) (s : BL [b] G G') (hb : HandAt G' b g) (n1 : pl ≠ b) (n2 : cl ≠ b) (n3 : fl ≠ b) : PtJ b g pl cl fl Dp H G' n := by
  have tk := h.hb.tk s
  refine ⟨h.bl.trans s, hb, h.po.tk tk (fun xs e => s _ _ (by simpa using n1) e), ?_, ?_⟩
  · obtain ⟨cas, cs, h1, h2, h3⟩ := h.cs
    exact ⟨cas, cs, s _ _ (by simpa using n2) h1, Paired.mapP h2 fun _ _ z => z.tk tk, h3⟩
  · obtain ⟨cas, cs, h1, h2, h3⟩ := h.fl
    exact ⟨cas, cs, s _ _ (by simpa using n3) h1, Paired.mapP h2 fun _ _ z => z.tk tk, h3⟩
theorem PtJ.app {Dp : List Fc} {b g pl cl fl : Addr} {H G : Hp} {n : Nat} {gas : List Addr} {gs : List (List Fc)} {p : Addr} {x : List Fc} (h : PtJ b g pl cl fl Dp H G n) (h1 : G fl = some (.lst (gas.map .ref))) (h2 : Paired (FactsAt G) gas gs) (h3 : ∀ x ∈ gs, x.length ≤ 3 ∧ ∀ f ∈ x, GFD Dp f) (h4 : gs.length = n) (hp : FactsAt G p x) (gx : x.length ≤ 3 ∧ ∀ f ∈ x, GFD Dp f) (n0 : H fl = none) (n1 : fl ≠ b) (n2 : fl ≠ g) (n3 : pl ≠ fl) (n4 : cl ≠ fl) :
    PtJ b g pl cl fl Dp H (L2.upd G fl (.lst (gas.map V.ref ++ [.ref p]))) (n + 1) := by
  have tk : TK G (L2.upd G fl (.lst (gas.map V.ref ++ [.ref p]))) := TK.upd h1 (fun xs e => nomatch e)
  obtain ⟨cas, cs, c1, c2, c3⟩ := h.cs
  refine ⟨BL.put h.bl n0, h.hb.put n1 n2, h.po.tk tk (fun xs e => by rw [upd_ne n3]; exact e), ⟨cas, cs, by rw [upd_ne n4]; exact c1, Paired.mapP c2 fun _ _ z => z.tk tk, c3⟩, ⟨gas ++ [p], gs ++ [x], by rw [upd_same, List.map_append]; rfl, Paired.snoc (Paired.mapP h2 fun _ _ z => z.tk tk) (hp.tk tk), fun y hy => ?_, by rw [List.length_append, List.length_singleton, h4]⟩⟩
  rcases List.mem_append.mp hy with z | z
  · exact h3 y z
  · rw [List.mem_singleton.mp z]; exact gx
theorem lst_inj {H : Hp} {a : Addr} {xs ys : List V} (h1 : H a = some (.lst xs)) (h2 : H a = some (.lst ys)) : xs = ys := by
  rw [h1] at h2
  exact HO.lst.inj (Option.some.inj h2)
section
variable {P : Program} {w : World} {K : PySem.W.Frag} {mg : Str → Option Value} {base : Heap}
theorem scPt : FnScope nPt ["hand", "most", "grounds"] (defScope sParts) := ⟨rfl, rfl, rfl, by decide +kernel, rfl, by decide +kernel, by decide +kernel⟩
theorem ok_parts {f : Addr} {fd : FuncData} {k : Nat} (F : Fun K "_law_parts" "_law_parts" sParts f fd) (T : Tx mg) (cD : Cal P w K mg base (k + 4) "_law_draw" ["hand", "many"] spDraw) (cA : Cal P w K mg base (k + 4) "_law_any" ["hand", "items"] spAny) (cP : Cal P w K mg base (k + 4) "_law_pool" ["hand", "many"] spPool) : FnOk P w K mg base CX0 (k + 5) f fd ["hand", "most", "grounds"] spParts := by
  refine F.ok scPt (fun vs H Q E h => ?_) (fun cdv A outer s H vs Q E hr h => ?_)
  · obtain ⟨b, g, m, n, rfl, _⟩ := h
    rfl
  · obtain ⟨b, g, m, n, rfl, hB, hm0, hm1, hn0, hn1, q⟩ := h
    refine ⟨_, (pss_cons (ps_asg (pe_tup (pa_cons (pe_c cP hr (by omega) (by rfl) (pa_cons (pv 0) (pa_cons (pe_op op_add pe_int (pe_c cD hr (by omega) (by rfl) (pa_cons (pv 0) (pa_cons pe_int pa_nil)))) pa_nil))) (pa_cons (pe_lst pa_nil) (pa_cons (pe_lst pa_nil) pa_nil)))) (pg_tup rfl (pgs_cons (pg_name (i := 3) scPt.nd rfl (Or.inr rfl)) (pgs_cons (pg_name (i := 4) scPt.nd rfl (Or.inl rfl)) (pgs_cons (pg_name (i := 5) scPt.nd rfl (Or.inl rfl)) pgs_nil))))) (pss_cons (ps_for PassesOwn.never rfl (pi_range1 (by rfl) T.range_ (pa_cons (pe_c cD hr (by omega) (by rfl) (pa_cons (pv 0) (pa_cons (pv 1) pa_nil))) pa_nil)) (pg_name (i := 6) scPt.nd rfl (Or.inl rfl)) (pss_cons (ps_set (i := 7) scPt.nd rfl (Or.inl rfl) (pe_c cA hr (by omega) (by rfl) (pa_cons (pv 0) (pa_cons (pe_lst (pa_cons pe_int (pa_cons pe_int (pa_cons pe_int (pa_cons pe_int (pa_cons pe_int (pa_cons pe_int (pa_cons pe_int (pa_cons pe_int (pa_cons pe_int pa_nil)))))))))) pa_nil)))) (pss_cons (ps_set (i := 7) scPt.nd rfl (Or.inl rfl) (pe_ifExp (pt_and (pt_cmpR op_eq (pv 7) pe_int (nomark _)) (pw_and1 (pt_cmpR op_gt (pe_c cD hr (by omega) (by rfl) (pa_cons (pv 0) (pa_cons pe_int pa_nil))) pe_int (nomark _)))) pe_int (pv 7))) (pss_cons (ps_expr (pe_bm PySem.F.plainAttrs_list PySem.F.slot_list_append PySem.F.type_list_append mt_append (pv 4) (pa_cons (pe_tup (pa_cons (pe_tupleOf (by rfl) T.tuple_ (pe_lc (own := [("k", 8)]) (g := gName 8) (te := tCall spAny [] E0 (tCons (tVar 0) (tCons (tVar 3) tNil))) rfl scPt.nd (pi_range1 (by rfl) T.range_ (pa_cons (pv 7) pa_nil)) (blkOk_by (N := nPt) (sc := defScope sParts) (by decide +kernel)) (fun _ _ _ _ _ => pg_name (i := 8) scPt.nd rfl (Or.inl rfl)) (fun _ _ _ _ _ => pts_nil) (fun _ _ _ _ _ => (pe_c cA hr (by omega) (by rfl) (pa_cons (pv 0) (pa_cons (pv 3) pa_nil)))))) (pa_cons (pe_c cA hr (by omega) (by rfl) (pa_cons (pv 0) (pa_cons (pv 3) pa_nil))) pa_nil))) pa_nil))) (pss_one (ps_if (pt_cmpR op_eq (pe_c cD hr (by omega) (by rfl) (pa_cons (pv 0) (pa_cons pe_int pa_nil))) pe_int (nomark _)) (pss_one (ps_expr (pe_bm PySem.F.plainAttrs_list PySem.F.slot_list_append PySem.F.type_list_append mt_append (pv 4) (pa_cons (pe_c cA hr (by omega) (by rfl) (pa_cons (pv 0) (pa_cons (pv 4) pa_nil))) pa_nil)))) pss_nil)))))) (pss_cons (ps_for PassesOwn.never rfl (pi_range1 (by rfl) T.range_ (pa_cons (pv 2) pa_nil)) (pg_name (i := 6) scPt.nd rfl (Or.inl rfl)) (pss_one (ps_expr (pe_bm PySem.F.plainAttrs_list PySem.F.slot_list_append PySem.F.type_list_append mt_append (pv 5) (pa_cons (pe_tupleOf (by rfl) T.tuple_ (pe_lc (own := [("k", 8)]) (g := gName 8) (te := tCall spAny [] E0 (tCons (tVar 0) (tCons (tVar 3) tNil))) rfl scPt.nd (pi_range1 (by rfl) T.range_ (pa_cons (pe_c cA hr (by omega) (by rfl) (pa_cons (pv 0) (pa_cons (pe_lst (pa_cons pe_int (pa_cons pe_int (pa_cons pe_int (pa_cons pe_int (pa_cons pe_int (pa_cons pe_int pa_nil))))))) pa_nil))) pa_nil)) (blkOk_by (N := nPt) (sc := defScope sParts) (by decide +kernel)) (fun _ _ _ _ _ => pg_name (i := 8) scPt.nd rfl (Or.inl rfl)) (fun _ _ _ _ _ => pts_nil) (fun _ _ _ _ _ => (pe_c cA hr (by omega) (by rfl) (pa_cons (pv 0) (pa_cons (pv 3) pa_nil)))))) pa_nil))))) (pss_one (ps_ret (pe_tup (pa_cons (pe_tupleOf (by rfl) T.tuple_ (pv 4)) (pa_cons (pe_tupleOf (by rfl) T.tuple_ (pv 5)) pa_nil)))))))), ?_⟩
    refine ⟨_, rfl, _, rfl, b, g, 10, rfl, hB, by decide, by decide, fun H1 r bl1 hB1 h10 h11 => ⟨_, _, rfl, rfl, b, g, _, rfl, hB1, by omega, by omega, fun H2 pl Dp bl2 hB2 npl hP2 => ?_⟩⟩
    refine ⟨by decide, fun cl ncl => ⟨by decide, fun fl nfl => ⟨by show 3 ≤ sizeLine; decide, fun tt ntt => ?_⟩⟩⟩
    have s1 := same_upd (o := HO.lst []) ncl
    have s2 := same_upd (o := HO.lst []) nfl
    have s3 := same_upd (o := HO.tup [.ref pl, .ref cl, .ref fl]) ntt
    have s123 := s1.trans (s2.trans s3)
    have htt : (upd (upd (upd H2 cl (.lst [])) fl (.lst [])) tt (.tup [.ref pl, .ref cl, .ref fl])) tt = some (.tup [.ref pl, .ref cl, .ref fl]) := upd_same
    have hcl3 := s3 _ _ (s2 _ _ (show (upd H2 cl (.lst [])) cl = some (.lst []) from upd_same))
    have hfl3 := s3 _ _ (show (upd (upd H2 cl (.lst [])) fl (.lst [])) fl = some (.lst []) from upd_same)
    have npb := hB1.nb npl
    have ncb := hB2.nb ncl
    have ncg := hB2.ng ncl
    have nfl2 : H2 fl = none := s1.free nfl
    have nfb := hB2.nb nfl2
    have nfg := hB2.ng nfl2
    have nfc : fl ≠ cl := fun e => by rw [e, upd_same] at nfl; cases nfl
    have npc : pl ≠ cl := fun e => by
      obtain ⟨_, h, _⟩ := hP2
      rw [e, ncl] at h; cases h
    have npf : pl ≠ fl := fun e => by
      obtain ⟨_, h, _⟩ := hP2
      rw [e, nfl2] at h; cases h
    have bl12 := bl1.trans bl2
    have nclH : H cl = none := bl12.nw ncl (by simpa using ncb)
    have nflH : H fl = none := bl12.nw nfl2 (by simpa using nfb)
    have pi3 : PtI b g pl cl fl Dp H (upd (upd (upd H2 cl (.lst [])) fl (.lst [])) tt (.tup [.ref pl, .ref cl, .ref fl])) 0 := ⟨bl12.trans (.same s123), hB2.same s123, hP2.tk (.same s123) (fun xs e => s123 _ _ e), ⟨[], [], hcl3, .nil, by simp, Nat.le_refl _⟩, hfl3⟩
    generalize hH3 : upd (upd (upd H2 cl (.lst [])) fl (.lst [])) tt (.tup [.ref pl, .ref cl, .ref fl]) = H3 at *
    refine ⟨tt, _, rfl, .of htt, rfl, _, _, rfl, _, _, rfl, _, _, rfl, rfl, ?_⟩
    refine ⟨_, rfl, _, rfl, b, g, m, rfl, pi3.hb, hm0, by omega, fun H4 r4 bl4 hB4 h40 h41 => ?_⟩
    have pi4 := pi3.step bl4 hB4 npb ncb nfb
    refine ⟨_, rfl, by omega, by omega, ?_⟩
    refine for_it (walk_range (lo := 0)) (fun i σ G => ∃ y6 y7 y8, σ = [some (.ref b), some (.int m), some (.int n), some (.ref pl), some (.ref cl), some (.ref fl), y6, y7, y8] ∧ PtI b g pl cl fl Dp H G (2 * i)) ⟨_, _, _, rfl, pi4⟩ (fun i σ G _ _ => trivial) ?_ ?_
    · rintro i y σ G G' hi ⟨y6, y7, y8, rfl, pI⟩ ⟨rfl, rfl⟩
      have hi2 : i < 100 := by omega
      refine ⟨_, rfl, by show 9 ≤ sizeLine; decide, fun l nl => ?_⟩
      have sl := same_upd (o := HO.lst [.int 0, .int 1, .int 1, .int 1, .int 2, .int 2, .int 2, .int 3, .int 4]) nl
      refine ⟨b, g, l, _, rfl, pI.hb.same sl, upd_same, pI.hb.nb nl, by simp, by decide, fun H5 v bl5 hB5 hv => ?_⟩
      obtain ⟨sz, hsz, rfl⟩ : ∃ sz : Int, (0 ≤ sz ∧ sz ≤ 4) ∧ v = .int sz := by
        have hv2 : v ∈ ([0, 1, 1, 1, 2, 2, 2, 3, 4] : List Int).map V.int := hv
        obtain ⟨z, hz, rfl⟩ := List.mem_map.mp hv2
        have hall : ∀ z ∈ ([0, 1, 1, 1, 2, 2, 2, 3, 4] : List Int), 0 ≤ z ∧ z ≤ 4 := by decide
        exact ⟨z, hall z hz, rfl⟩
      have pi5 := pI.step (.trans (.same sl) bl5) hB5 npb ncb nfb
      dsimp only [gName]
      refine seq_use (fun σ G5 => ∃ (sz : Int) (y8 : Option V), σ = [some (.ref b), some (.int m), some (.int n), some (.ref pl), some (.ref cl), some (.ref fl), some (.int (0 + (i : Nat))), some (.int sz), y8] ∧ 0 ≤ sz ∧ sz ≤ 4 ∧ PtI b g pl cl fl Dp H G5 (2 * i)) ?_ (fun hrest => ?_)
      · rintro σ G5 ⟨sz, y8, rfl, hz0, hz1, pI5⟩
        obtain ⟨cas5, cs5, d1, d2, d3, d4⟩ := pI5.cs
        refine ⟨_, rfl, .inl ⟨rfl, _, SqL.of d1⟩, _, rfl, sz, rfl, by omega, by omega, fun D nD => ?_⟩
        refine comp_facts (n := sz.toNat) pI5.hb pI5.po npb nD (by omega) (fun G6 as fs bl6 hB6 hD6 hp6 hg6 hl6 => ?_)
        refine .inl ⟨D, _, rfl, SqL.of hD6, fun t nt => ?_⟩
        have st := same_upd (o := HO.tup (as.map V.ref)) nt
        have ht7 : (upd G6 t (.tup (as.map V.ref))) t = some (.tup (as.map V.ref)) := upd_same
        have pI7 := (pI5.step bl6 hB6 npb ncb nfb).step (.same st) (hB6.same st) npb ncb nfb
        have hp7 := Paired.mapP hp6 fun _ _ z => FactAt.tk z (.same st)
        generalize hG7 : upd G6 t (.tup (as.map V.ref)) = G7 at *
        obtain ⟨xs, x1, x2, x3, x4⟩ := pI7.po.any
        refine ⟨_, rfl, _, rfl, b, g, pl, xs, rfl, pI7.hb, x1, npb, x2, by omega, fun H8 v bl8 hB8 hv => ?_⟩
        obtain ⟨ph, f, rfl, hf, gf⟩ := x4 v hv
        have tk8 := pI7.hb.tk bl8
        have pI8 := pI7.step bl8 hB8 npb ncb nfb
        refine ⟨by show 2 ≤ sizeLine; decide, fun p np => ?_⟩
        have sp := same_upd (o := HO.tup [.ref t, .ref ph]) np
        have hp9 : (upd H8 p (.tup [.ref t, .ref ph])) p = some (.tup [.ref t, .ref ph]) := upd_same
        have pI9 := pI8.step (.same sp) (hB8.same sp) npb ncb nfb
        have tk9 := TK.trans tk8 (.same sp)
        have hcl9 : ClAt (upd H8 p (.tup [.ref t, .ref ph])) p (fs, f) := ⟨t, ph, hp9, ⟨as, tk9 _ _ ht7, Paired.mapP hp7 fun _ _ z => FactAt.tk z tk9⟩, hf.tk tk9⟩
        generalize hG9 : upd H8 p (.tup [.ref t, .ref ph]) = G9 at *
        obtain ⟨cas9, cs9, c1, c2, c3, c4⟩ := pI9.cs
        have lc9 := Paired.len c2
        refine ⟨cl, _, _, rfl, rfl, c1, by rw [List.length_map]; exact Nat.lt_of_le_of_lt (show cas9.length ≤ 1000 by omega) (by decide), ?_⟩
        have pI10 := pI9.app c1 c2 c3 c4 hcl9 ⟨by show fs.length ≤ 4; omega, hg6, gf⟩ nclH ncb ncg npc nfc
        have hc10 : (upd G9 cl (.lst (cas9.map V.ref ++ [.ref p]))) cl = some (.lst (cas9.map V.ref ++ [.ref p])) := upd_same
        generalize hG10 : upd G9 cl (.lst (cas9.map V.ref ++ [.ref p])) = G10 at *
        refine ⟨_, rfl, b, g, 12, rfl, pI10.hb, by decide, by decide, fun H11 r bl11 hB11 _ _ => ⟨rfl, _, rfl, ?_⟩⟩
        have pI11 := pI10.step bl11 hB11 npb ncb nfb
        refine ite2 (fun _ => ?_) (fun _ => ?_)
        · have hc11 := bl11 _ _ (by simpa using ncb) hc10
          refine ⟨_, rfl, .inl ⟨rfl, _, SqL.of hc11⟩, _, rfl, _, rfl, b, g, cl, _, rfl, hB11, hc11, ncb, by simp, by rw [List.length_append, List.length_map, List.length_singleton]; omega, fun H12 v bl12 hB12 hv => ?_⟩
          have pI12 := pI11.step bl12 hB12 npb ncb nfb
          have hc12 := bl12 _ _ (by simpa using ncb) hc11
          obtain ⟨cas12, cs12, e1, e2, e3, e4⟩ := pI12.cs
          rw [lst_inj hc12 e1] at hv
          obtain ⟨j, hj⟩ := List.getElem?_of_mem hv
          obtain ⟨p2, hp2, rfl⟩ := ref_at hj
          obtain ⟨c0, hc0, hcc⟩ := Paired.at' e2 hp2
          have lc12 := Paired.len e2
          refine ⟨cl, _, _, rfl, rfl, e1, by rw [List.length_map]; exact Nat.lt_of_le_of_lt (show cas12.length ≤ 1000 by omega) (by decide), ?_⟩
          exact ⟨_, _, _, rfl, pI12.app e1 e2 e3 e4 hcc (e3 c0 (List.mem_of_getElem? hc0)) nclH ncb ncg npc nfc⟩
        · exact ⟨_, _, _, rfl, pI11.up (by omega)⟩
      · refine ⟨_, rfl, rfl, _, rfl, ?_⟩
        refine ite2 (fun _ => ?_) (fun _ => ?_)
        · refine ⟨_, rfl, b, g, 3, rfl, hB5, by decide, by decide, fun H6 r6 bl6 hB6 _ _ => ⟨_, _, rfl, rfl, _, rfl, ?_⟩⟩
          have pI6 := pi5.step bl6 hB6 npb ncb nfb
          refine ite2 (fun _ => ?_) (fun _ => ?_)
          · exact hrest _ _ ⟨1, _, rfl, by decide, by decide, pI6⟩
          · exact ⟨_, rfl, hrest _ _ ⟨sz, _, rfl, hsz.1, hsz.2, pI6⟩⟩
        · exact ⟨_, rfl, hrest _ _ ⟨sz, _, rfl, hsz.1, hsz.2, pi5⟩⟩
    · rintro σ G ⟨y6, y7, y8, rfl, pI⟩
      have hJ : PtJ b g pl cl fl Dp H G 0 := by
        obtain ⟨cas, cs, h1, h2, h3, h4⟩ := pI.cs
        exact ⟨pI.bl, pI.hb, pI.po, ⟨cas, cs, h1, h2, h3, by omega⟩, ⟨[], [], pI.fl, .nil, by simp, rfl⟩⟩
      refine ⟨_, rfl, n, rfl, by omega, by omega, ?_⟩
      refine for_it (walk_range (lo := 0)) (fun i σ G => ∃ y6 y7 y8, σ = [some (.ref b), some (.int m), some (.int n), some (.ref pl), some (.ref cl), some (.ref fl), y6, y7, y8] ∧ PtJ b g pl cl fl Dp H G i) ⟨_, _, _, rfl, hJ⟩ (fun i σ G _ _ => trivial) ?_ ?_
      · rintro i y σ G G' hi ⟨y6, y7, y8, rfl, pJ⟩ ⟨rfl, rfl⟩
        obtain ⟨gas5, gs5, d1, d2, d3, d4⟩ := pJ.fl
        refine ⟨_, rfl, .inl ⟨rfl, _, SqL.of d1⟩, _, rfl, by show 6 ≤ sizeLine; decide, fun l nl => ?_⟩
        have sl := same_upd (o := HO.lst [.int 0, .int 1, .int 1, .int 2, .int 2, .int 3]) nl
        refine ⟨b, g, l, _, rfl, pJ.hb.same sl, upd_same, pJ.hb.nb nl, by simp, by decide, fun H5 v bl5 hB5 hv => ?_⟩
        obtain ⟨sz, hsz, rfl⟩ : ∃ sz : Int, (0 ≤ sz ∧ sz ≤ 3) ∧ v = .int sz := by
          have hv2 : v ∈ ([0, 1, 1, 2, 2, 3] : List Int).map V.int := hv
          obtain ⟨z, hz, rfl⟩ := List.mem_map.mp hv2
          have hall : ∀ z ∈ ([0, 1, 1, 2, 2, 3] : List Int), 0 ≤ z ∧ z ≤ 3 := by decide
          exact ⟨z, hall z hz, rfl⟩
        have pJ5 := pJ.step (.trans (.same sl) bl5) hB5 npb ncb nfb
        refine ⟨sz, rfl, by omega, by omega, fun D nD => ?_⟩
        refine comp_facts (n := sz.toNat) pJ5.hb pJ5.po npb nD (by omega) (fun G6 as fs bl6 hB6 hD6 hp6 hg6 hl6 => ?_)
        refine .inl ⟨D, _, rfl, SqL.of hD6, fun t nt => ?_⟩
        have st := same_upd (o := HO.tup (as.map V.ref)) nt
        have pJ7 := (pJ5.step bl6 hB6 npb ncb nfb).step (.same st) (hB6.same st) npb ncb nfb
        have hft : FactsAt (upd G6 t (.tup (as.map V.ref))) t fs := ⟨as, upd_same, Paired.mapP hp6 fun _ _ z => FactAt.tk z (.same st)⟩
        generalize hG7 : upd G6 t (.tup (as.map V.ref)) = G7 at *
        obtain ⟨gas7, gs7, c1, c2, c3, c4⟩ := pJ7.fl
        have lc7 := Paired.len c2
        refine ⟨fl, _, _, rfl, rfl, c1, by rw [List.length_map]; exact Nat.lt_of_le_of_lt (show gas7.length ≤ 60 by omega) (by decide), ?_⟩
        exact ⟨_, _, _, rfl, pJ7.app c1 c2 c3 c4 hft ⟨by omega, hg6⟩ nflH nfb nfg npf (Ne.symm nfc)⟩
      · rintro σ G ⟨y6, y7, y8, rfl, pJ⟩
        obtain ⟨cas, cs, c1, c2, c3, c4⟩ := pJ.cs
        obtain ⟨gas, gs, g1, g2, g3, g4⟩ := pJ.fl
        refine ⟨_, rfl, .inl ⟨cl, _, rfl, SqL.of c1, fun ca nca => ?_⟩⟩
        have sa := same_upd (o := HO.tup (cas.map V.ref)) nca
        refine ⟨_, rfl, .inl ⟨fl, _, rfl, SqL.of (sa _ _ g1), fun ga nga => ?_⟩⟩
        have sb := same_upd (o := HO.tup (gas.map V.ref)) nga
        refine ⟨by show 2 ≤ sizeLine; decide, fun p np => ?_⟩
        have sc := same_upd (o := HO.tup [.ref ca, .ref ga]) np
        have sabc := sa.trans (sb.trans sc)
        refine q _ p ca ga cs gs (pJ.bl.trans (.same sabc)) (pJ.hb.same sabc) upd_same ⟨cas, sc _ _ (sb _ _ upd_same), Paired.mapP c2 fun _ _ z => z.tk (.same sabc)⟩ ⟨gas, sc _ _ upd_same, Paired.mapP g2 fun _ _ z => z.tk (.same sabc)⟩ ⟨fun c hc => ⟨(c3 c hc).1, fun f hf => ((c3 c hc).2.1 f hf).1, (c3 c hc).2.2.1⟩, fun x hx f hf => ((g3 x hx).2 f hf).1, by omega, by omega, fun x hx => by have := (g3 x hx).1; omega⟩ g4 ⟨Dp, pJ.po.few, fun c hc => ⟨fun f hf => ((c3 c hc).2.1 f hf).2, (c3 c hc).2.2.2⟩, fun x hx f hf => ((g3 x hx).2 f hf).2, c4, fun x hx => (g3 x hx).1⟩
end
end L2.My
end
section
set_option Elab.async false
set_option linter.all false
set_option maxRecDepth 100000
set_option maxHeartbeats 4000000
namespace L2.My
open PySem PySem.Spec PyProof.Rows
abbrev sNest : Stmt := top 24
abbrev sBadF : Stmt := top 33
/-! ### expressions that make things -/
def Stb (b : Addr) (P : Hp → Prop) : Prop := ∀ H H', P H → BL [b] H H' → P H'
def GT (b g : Addr) (P : Hp → Prop) (σ : St) (te : TE) : Prop := ∀ H (Q : VK), HandAt H b g → P H → (∀ H' v, BL [b] H H' → HandAt H' b g → Thg b H' v → Q v H') → te σ H Q
def GA (b g : Addr) (P : Hp → Prop) (σ : St) (n : Nat) (ta : TA) : Prop := ∀ H (Q : List V → Hp → Prop), HandAt H b g → P H → (∀ H' vs, BL [b] H H' → HandAt H' b g → (∀ v ∈ vs, Thg b H' v) → vs.length = n → Q vs H') → ta σ H Q
/-- a new list of things -/
def GL (b g : Addr) (P : Hp → Prop) (σ : St) (n : Nat) (te : TE) : Prop := ∀ H (Q : VK), HandAt H b g → P H → (∀ H' l vs, BL [b] H H' → HandAt H' b g → H l = none → H' l = some (.lst vs) → (∀ v ∈ vs, Thg b H' v) → vs.length = n → Q (.ref l) H') → te σ H Q
section
variable {b g : Addr} {P : Hp → Prop} {σ : St}
theorem ga_nil : GA b g P σ 0 tNil := fun H Q hB _ q => q H [] .refl hB (by simp) rfl
theorem ga_cons {n : Nat} {te : TE} {ta : TA} (st : Stb b P) (h1 : GT b g P σ te) (h2 : GA b g P σ n ta) : GA b g P σ (n + 1) (tCons te ta) := fun H Q hB p q =>
  h1 H _ hB p fun H1 v bl1 hB1 t1 => h2 H1 _ hB1 (st _ _ p bl1) fun H2 vs bl2 hB2 t2 hl => q H2 (v :: vs) (bl1.trans bl2) hB2 (fun u hu => by
    rcases List.mem_cons.mp hu with z | z
    · rw [z]; exact t1.bl bl2
    · exact t2 u z) (by rw [List.length_cons, hl])
theorem gt_tup {n : Nat} {ta : TA} (hn : n ≤ 1000) (h : GA b g P σ n ta) : GT b g P σ (tTup ta) := fun H Q hB p q =>
  h H _ hB p fun H1 vs bl1 hB1 t1 hl => ⟨Nat.le_trans (show vs.length ≤ 1000 by omega) (by decide), fun a na => by
    have s := same_upd (o := HO.tup vs) na
    exact q _ _ (bl1.trans (.same s)) (hB1.same s) (.tup upd_same (hB1.nb na) (by omega) fun v hv => (t1 v hv).same s)⟩
theorem gl_lst {n : Nat} {ta : TA} (hn : n ≤ 1000) (h : GA b g P σ n ta) : GL b g P σ n (tLst ta) := fun H Q hB p q =>
  h H _ hB p fun H1 vs bl1 hB1 t1 hl => ⟨Nat.le_trans (show vs.length ≤ 1000 by omega) (by decide), fun a na => by
    have s := same_upd (o := HO.lst vs) na
    exact q _ a vs (bl1.trans (.same s)) (hB1.same s) (bl1.nw na (by simpa using hB1.nb na)) upd_same (fun v hv => (t1 v hv).same s) hl⟩
theorem gl_gt {n : Nat} {te : TE} (h : GL b g P σ n te) : GT b g P σ te := fun H Q hB p q => h H Q hB p fun H1 l vs bl hB1 nl hl _ _ => q H1 _ bl hB1 (.lst hl (hB.nb nl))
theorem gt_lst {n : Nat} {ta : TA} (hn : n ≤ 1000) (h : GA b g P σ n ta) : GT b g P σ (tLst ta) := gl_gt (gl_lst hn h)
theorem gt_int (i : Int) : GT b g P σ (tC (.int i)) := fun H Q hB _ q => q H _ .refl hB (.int i)
theorem gt_non : GT b g P σ (tC .non) := fun H Q hB _ q => q H _ .refl hB .non
theorem gt_bl (i : Bool) : GT b g P σ (tC (.bl i)) := fun H Q hB _ q => q H _ .refl hB (.boo i)
theorem gt_str (z : Str) (h : z.length ≤ 5000) : GT b g P σ (tC (.str z)) := fun H Q hB _ q => q H _ .refl hB (.str z h)
theorem gt_var {i : Nat} {v : V} (e : σ[i]? = some (some v)) (h : ∀ H, P H → Thg b H v) : GT b g P σ (tVar i) := fun H Q hB p q => ⟨v, e, q H _ .refl hB (h H p)⟩
end
def spNest : Sp := fun vs H Q _ => ∃ b g, vs = [.ref b] ∧ HandAt H b g ∧ ∀ H' v, BL [b] H H' → HandAt H' b g → Thg b H' v → Q v H'
theorem gt_nest {b g : Addr} {P : Hp → Prop} {σ : St} (e : σ[0]? = some (some (.ref b))) : GT b g P σ (tCall spNest [] E0 (tCons (tVar 0) tNil)) := fun H Q hB _ q => ⟨_, e, b, g, rfl, hB, q⟩
section
variable {P : Program} {w : World} {K : PySem.W.Frag} {mg : Str → Option Value} {base : Heap}
theorem scNest : FnScope ["hand", "thing", "turn"] ["hand"] (defScope sNest) := ⟨rfl, rfl, rfl, by decide +kernel, rfl, by decide +kernel, by decide +kernel⟩
theorem ok_nest {f : Addr} {fd : FuncData} {k : Nat} (F : Fun K "_law_nested" "_law_nested" sNest f fd) (T : Tx mg) (cA : Cal P w K mg base (k + 2) "_law_any" ["hand", "items"] spAny) : FnOk P w K mg base CX0 (k + 3) f fd ["hand"] spNest := by
  refine F.ok scNest (fun vs H Q E h => ?_) (fun cdv A outer s H vs Q E hr h => ?_)
  · obtain ⟨b, g, rfl, _⟩ := h
    rfl
  · obtain ⟨b, g, rfl, hB, q⟩ := h
    refine ⟨_, (pss_cons (ps_set (i := 1) scNest.nd rfl (Or.inl rfl) (pe_c cA hr (by omega) (by rfl) (pa_cons (pv 0) (pa_cons (pe_lst (pa_cons (pe_tup pa_nil) (pa_cons pe_int (pa_cons pe_str (pa_cons pe_non pa_nil))))) pa_nil)))) (pss_cons (ps_for PassesOwn.never rfl (pi_range1 (by rfl) T.range_ (pa_cons pe_int pa_nil)) (pg_name (i := 2) scNest.nd rfl (Or.inl rfl)) (pss_one (ps_set (i := 1) scNest.nd rfl (Or.inl rfl) (pe_ifExp (pt_cmpR op_eq (pe_op op_mod (pe_callTy call_int1 (by rfl) T.int_ (by decide +kernel) (pa_cons (pv 2) pa_nil)) pe_int) pe_int (nomark _)) (pe_lst (pa_cons (pv 1) pa_nil)) (pe_tup (pa_cons (pv 1) pa_nil)))))) (pss_one (ps_ret (pv 1))))), ?_⟩
    refine ⟨_, rfl, ?_⟩
    refine gl_lst (b := b) (g := g) (P := fun _ => True) (n := 4) (by decide) (ga_cons (fun _ _ _ _ => trivial) (gt_tup (by decide) ga_nil) (ga_cons (fun _ _ _ _ => trivial) (gt_int 0) (ga_cons (fun _ _ _ _ => trivial) (gt_str "a" (by decide)) (ga_cons (fun _ _ _ _ => trivial) gt_non ga_nil)))) H _ hB trivial fun H1 l vs bl1 hB1 nl hl ht hlen => ?_
    refine ⟨b, g, l, vs, rfl, hB1, hl, hB.nb nl, (fun e => by rw [e] at hlen; cases hlen), by omega, fun H2 v bl2 hB2 hv => ?_⟩
    refine ⟨24, rfl, by decide, by decide, ?_⟩
    refine for_it (walk_range (lo := 0)) (fun i σ G => ∃ v y2, σ = [some (.ref b), some v, y2] ∧ BL [b] H G ∧ HandAt G b g ∧ Thg b G v) ⟨v, _, rfl, bl1.trans bl2, hB2, (ht v hv).bl bl2⟩ (fun i σ G _ _ => trivial) ?_ ?_
    · rintro i y σ G G' hi ⟨v, y2, rfl, bl, hBg, hv⟩ ⟨rfl, rfl⟩
      refine ⟨_, rfl, .inl ⟨_, rfl, _, _, rfl, rfl, (by show (0 : Int) < 5; decide), rfl, _, rfl, ?_⟩⟩
      refine ite2 (fun _ => ?_) (fun _ => ?_)
      · refine ⟨_, rfl, by show 1 ≤ sizeLine; decide, fun p np => ?_⟩
        have s := same_upd (o := HO.lst [v]) np
        exact ⟨_, _, rfl, bl.trans (.same s), hBg.same s, .lst upd_same (hBg.nb np)⟩
      · refine ⟨_, rfl, by show 1 ≤ sizeLine; decide, fun p np => ?_⟩
        have s := same_upd (o := HO.tup [v]) np
        exact ⟨_, _, rfl, bl.trans (.same s), hBg.same s, .tup upd_same (hBg.nb np) (by show 1 ≤ 5000; decide) fun x hx => by
          rw [List.mem_singleton.mp hx]; exact hv.same s⟩
    · rintro σ G ⟨v, y2, rfl, bl, hBg, hv⟩
      exact ⟨_, rfl, q G v bl hBg hv⟩
end
end L2.My
end
section
set_option Elab.async false
set_option linter.all false
set_option maxRecDepth 100000
set_option maxHeartbeats 4000000
namespace L2.My
open PySem PySem.Spec PyProof.Rows
section
variable {b g : Addr} {P : Hp → Prop} {σ : St}
theorem gt_dct : GT b g P σ tDNewK := fun H Q hB _ q p np => by
  have s := same_upd (o := HO.dK []) np
  exact q _ _ (.same s) (hB.same s) (.dct upd_same (hB.nb np))
theorem gt_pow : GT b g P σ (tOp (rI CPow fun i j => .int (i ^ j.toNat)) (tC (.int 10)) (tC (.int 12))) := fun H Q hB _ q => ⟨_, _, rfl, rfl, ⟨by decide, by decide, by decide⟩, q H _ .refl hB (.int _)⟩
theorem gt_neg : GT b g P σ (tUn (rU fun i => .int (-i)) (tC (.int 1))) := fun H Q hB _ q => ⟨_, rfl, q H _ .refl hB (.int _)⟩
def GB (b g : Addr) (P : Hp → Prop) (σ : St) (n : Nat) (ta : TA) : Prop := ∀ H (Q : List V → Hp → Prop), HandAt H b g → P H → (∀ H' vs, BL [b] H H' → HandAt H' b g → (∀ v ∈ vs, Thg b H' v) → vs.length ≤ n → Q vs H') → ta σ H Q
theorem gb_nil {n : Nat} : GB b g P σ n tNil := fun H Q hB _ q => q H [] .refl hB (by simp) (Nat.zero_le _)
theorem gb_cons {n : Nat} {te : TE} {ta : TA} (st : Stb b P) (h1 : GT b g P σ te) (h2 : GB b g P σ n ta) : GB b g P σ (n + 1) (tCons te ta) := fun H Q hB p q =>
  h1 H _ hB p fun H1 v bl1 hB1 t1 => h2 H1 _ hB1 (st _ _ p bl1) fun H2 vs bl2 hB2 t2 hl => q H2 (v :: vs) (bl1.trans bl2) hB2 (fun u hu => by
    rcases List.mem_cons.mp hu with z | z
    · rw [z]; exact t1.bl bl2
    · exact t2 u z) (by rw [List.length_cons]; omega)
theorem gt_tupB {ta : TA} (h : GB b g P σ 900 ta) : GT b g P σ (tTup ta) := fun H Q hB p q =>
  h H _ hB p fun H1 vs bl1 hB1 t1 hl => ⟨Nat.le_trans (show vs.length ≤ 1000 by omega) (by decide), fun a na => by
    have s := same_upd (o := HO.tup vs) na
    exact q _ _ (bl1.trans (.same s)) (hB1.same s) (.tup upd_same (hB1.nb na) (by omega) fun v hv => (t1 v hv).same s)⟩
theorem gt_lstB {ta : TA} (h : GB b g P σ 900 ta) : GT b g P σ (tLst ta) := fun H Q hB p q =>
  h H _ hB p fun H1 vs bl1 hB1 t1 hl => ⟨Nat.le_trans (show vs.length ≤ 1000 by omega) (by decide), fun a na => by
    have s := same_upd (o := HO.lst vs) na
    exact q _ _ (bl1.trans (.same s)) (hB1.same s) (.lst upd_same (hB1.nb na))⟩
theorem gl_lst' {n : Nat} {ta : TA} (h : GA b g P σ n ta) (hn : n ≤ 1000) : GL b g P σ n (tLst ta) := gl_lst hn h
theorem tt (b : Addr) : Stb b fun _ => True := fun _ _ _ _ => trivial
end
theorem Thg.put {b l : Addr} {H : Hp} {v : V} {xs ys : List V} (h : Thg b H v) (hl : H l = some (.lst xs)) : Thg b (upd H l (.lst ys)) v := by
  have th : ∀ {v : V} {t : String}, ThT H v t → ThT (upd H l (.lst ys)) v t := fun {v t} h => by
    cases h with
    | non => exact .non
    | bl c => exact .bl c
    | int i => exact .int i
    | str x => exact .str x
    | @lst a zs h =>
      by_cases e : a = l
      · subst e; exact .lst upd_same
      · exact .lst (by rw [upd_ne e]; exact h)
    | @tup a zs h =>
      have e : a ≠ l := fun z => by rw [z, hl] at h; cases h
      exact .tup (by rw [upd_ne e]; exact h)
    | @dct a zs h =>
      have e : a ≠ l := fun z => by rw [z, hl] at h; cases h
      exact .dct (by rw [upd_ne e]; exact h)
  have s0 : ∀ {v : V}, Sh0 b H v → Sh0 b (upd H l (.lst ys)) v := fun {v} ⟨⟨t, h1⟩, h2⟩ => ⟨⟨t, th h1⟩, h2⟩
  intro n
  have := h n
  clear h
  induction n generalizing v with
  | zero => exact s0 this
  | succ n ih =>
    refine ⟨s0 this.1, fun a zs e ea => ?_⟩
    have ne : a ≠ l := fun z => by rw [z, upd_same] at ea; cases ea
    rw [upd_ne ne] at ea
    obtain ⟨q1, q2⟩ := this.2 a zs e ea
    exact ⟨q1, fun x hx => ih (q2 x hx)⟩
section
variable {P : Program} {w : World} {K : PySem.W.Frag} {mg : Str → Option Value} {base : Heap}
theorem scBf : FnScope ["hand", "facts"] ["hand"] (defScope sBadF) := ⟨rfl, rfl, rfl, by decide +kernel, rfl, by decide +kernel, by decide +kernel⟩
theorem ok_badF {f : Addr} {fd : FuncData} {k : Nat} (F : Fun K "_law_bad_fact" "_law_bad_fact" sBadF f fd) (T : Tx mg) (cA : Cal P w K mg base (k + 3) "_law_any" ["hand", "items"] spAny) (cN : Cal P w K mg base (k + 3) "_law_nested" ["hand"] spNest) : FnOk P w K mg base CX0 (k + 4) f fd ["hand"] spNest := by
  refine F.ok scBf (fun vs H Q E h => ?_) (fun cdv A outer s H vs Q E hr h => ?_)
  · obtain ⟨b, g, rfl, _⟩ := h
    rfl
  · obtain ⟨b, g, rfl, hB, q⟩ := h
    refine ⟨_, (pss_cons (ps_set (i := 1) scBf.nd rfl (Or.inl rfl) (pe_lst (pa_cons pe_non (pa_cons pe_str (pa_cons (pe_tup pa_nil) (pa_cons (pe_lst (pa_cons pe_str pa_nil)) (pa_cons (pe_tup (pa_cons pe_str pa_nil)) (pa_cons (pe_tup (pa_cons pe_str pa_nil)) (pa_cons (pe_tup (pa_cons pe_str pa_nil)) (pa_cons (pe_tup (pa_cons pe_str (pa_cons (pe_un un_neg pe_int) pa_nil))) (pa_cons (pe_tup (pa_cons pe_str (pa_cons (pe_op op_pow pe_int pe_int) pa_nil))) (pa_cons (pe_tup (pa_cons pe_str (pa_cons pe_bl pa_nil))) (pa_cons (pe_tup (pa_cons pe_int pa_nil)) pa_nil))))))))))))) (pss_cons (ps_set (i := 1) scBf.nd rfl (Or.inl rfl) (pe_op op_cat (pv 1) (pe_lst (pa_cons (pe_tup (pa_cons pe_str (pa_cons pe_int (pa_cons pe_int (pa_cons pe_int (pa_cons pe_int (pa_cons pe_int pa_nil))))))) (pa_cons (pe_tup (pa_cons pe_str (pa_cons pe_str pa_nil))) (pa_cons (pe_tup (pa_cons pe_str pa_nil)) (pa_cons (pe_tup (pa_cons pe_str (pa_cons pe_non pa_nil))) (pa_cons (pe_tup (pa_cons pe_str (pa_cons (pe_tup (pa_cons pe_int pa_nil)) pa_nil))) (pa_cons pe_dnewK (pa_cons (pe_tup (pa_cons pe_str pa_nil)) pa_nil)))))))))) (pss_cons (ps_expr (pe_bm PySem.F.plainAttrs_list PySem.F.slot_list_append PySem.F.type_list_append mt_append (pv 1) (pa_cons (pe_c cN hr (by omega) (by rfl) (pa_cons (pv 0) pa_nil)) pa_nil))) (pss_one (ps_ret (pe_c cA hr (by omega) (by rfl) (pa_cons (pv 0) (pa_cons (pv 1) pa_nil)))))))), ?_⟩
    refine seq_set ?_
    refine gl_lst' (b := b) (g := g) (P := fun _ => True) (n := 11) ?_ (by decide) H _ hB trivial fun H1 l1 vs1 bl1 hB1 nl1 hl1 ht1 hn1 => ?_
    · repeat' (first | exact ga_nil | exact gt_int _ | exact gt_non | exact gt_bl _ | exact gt_str _ (by decide) | exact gt_dct | exact gt_neg | exact gt_pow | refine ga_cons (by first | exact tt _ | assumption) ?_ ?_ | exact gb_nil | refine gb_cons (by first | exact tt _ | assumption) ?_ ?_ | refine gt_tupB ?_ | refine gt_lstB ?_ | decide)
    refine seq_set ?_
    refine ⟨_, rfl, ?_⟩
    refine gl_lst' (b := b) (g := g) (P := fun _ => True) (n := 7) ?_ (by decide) H1 _ hB1 trivial fun H2 l2 vs2 bl2 hB2 nl2 hl2 ht2 hn2 => ?_
    · repeat' (first | exact ga_nil | exact gt_int _ | exact gt_non | exact gt_bl _ | exact gt_str _ (by decide) | exact gt_dct | exact gt_neg | exact gt_pow | refine ga_cons (by first | exact tt _ | assumption) ?_ ?_ | exact gb_nil | refine gb_cons (by first | exact tt _ | assumption) ?_ ?_ | refine gt_tupB ?_ | refine gt_lstB ?_ | decide)
    have nb1 := hB.nb nl1
    refine ⟨l1, l2, vs1, vs2, rfl, rfl, bl2 _ _ (by simpa using nb1) hl1, hl2, Nat.le_trans (show vs1.length + vs2.length ≤ 1000 by omega) (by decide), fun l3 nl3 => ?_⟩
    have s3 := same_upd (o := HO.lst (vs1 ++ vs2)) nl3
    have nb3 := hB2.nb nl3
    have hl3 : (upd H2 l3 (.lst (vs1 ++ vs2))) l3 = some (.lst (vs1 ++ vs2)) := upd_same
    have hB3 := hB2.same s3
    have bl3 := bl1.trans (bl2.trans (.same s3))
    have ht3 : ∀ v ∈ vs1 ++ vs2, Thg b (upd H2 l3 (.lst (vs1 ++ vs2))) v := fun v hv => by
      rcases List.mem_append.mp hv with z | z
      · exact ((ht1 v z).bl bl2).same s3
      · exact (ht2 v z).same s3
    have nlH : H l3 = none := (bl1.trans bl2).nw nl3 (by simpa using nb3)
    generalize hH3 : upd H2 l3 (.lst (vs1 ++ vs2)) = H3 at *
    refine ⟨_, rfl, .inl ⟨rfl, _, SqL.of hl3⟩, _, rfl, b, g, rfl, hB3, fun H4 v bl4 hB4 tv => ?_⟩
    have hl4 := bl4 _ _ (by simpa using nb3) hl3
    refine ⟨l3, _, _, rfl, rfl, hl4, Nat.lt_of_le_of_lt (show (vs1 ++ vs2).length ≤ 1000 by rw [List.length_append]; omega) (by decide), ?_⟩
    have bl5 : BL [b] H (upd H4 l3 (.lst (vs1 ++ vs2 ++ [v]))) := BL.put (bl3.trans bl4) nlH
    have hB5 := hB4.put (o := HO.lst (vs1 ++ vs2 ++ [v])) nb3 (hB2.ng nl3)
    refine ⟨_, rfl, _, rfl, b, g, l3, _, rfl, hB5, upd_same, nb3, by simp, by simp only [List.length_append, List.length_cons, List.length_nil]; omega, fun H6 u bl6 hB6 hu => ?_⟩
    refine q H6 u (bl5.trans bl6) hB6 (Thg.bl ?_ bl6)
    rcases List.mem_append.mp hu with z | z
    · exact ((ht3 u z).bl bl4).put hl4
    · rw [List.mem_singleton.mp z]; exact tv.put hl4
end
end L2.My
end
section
set_option Elab.async false
set_option linter.all false
set_option maxRecDepth 100000
set_option maxHeartbeats 4000000
namespace L2.My
open PySem PySem.Spec PyProof.Rows
abbrev sSpoilt : Stmt := top 36
abbrev nSp : List Str := ["hand", "parts", "clauses", "grounds", "kind", "at", "body", "head", "bad", "place", "odd", "bent"]
/-- an expression that makes a tuple of things -/
def GU (b g : Addr) (P : Hp → Prop) (σ : St) (n : Nat) (te : TE) : Prop := ∀ H (Q : VK), HandAt H b g → P H → (∀ H' a vs, BL [b] H H' → HandAt H' b g → H' a = some (.tup vs) → (∀ v ∈ vs, Thg b H' v) → vs.length ≤ n → Q (.ref a) H') → te σ H Q
theorem HandAt.nt {H : Hp} {b g : Addr} (h : HandAt H b g) : NoTup H b := fun xs e => by
  obtain ⟨_, _, _, _, _, h1, _⟩ := h
  rw [h1] at e; cases e
section
variable {K : PySem.W.Frag} {b g : Addr} {P : Hp → Prop} {σ : St}
theorem gu_gt {n : Nat} {te : TE} (h : GU b g P σ n te) (hn : n ≤ 5000) : GT b g P σ te := fun H Q hB p q => h H _ hB p fun H1 a vs bl hB1 ha ht hl => q H1 _ bl hB1 (.tup ha (hB1.nt.ne ha) (by omega) ht)
theorem gu_mono {n m : Nat} {te : TE} (h : GU b g P σ n te) (hn : n ≤ m) : GU b g P σ m te := fun H Q hB p q => h H _ hB p fun H1 a vs bl hB1 ha ht hl => q H1 a vs bl hB1 ha ht (by omega)
theorem gu_var {i n : Nat} {a : Addr} {vs : List V} (e : σ[i]? = some (some (.ref a))) (h : ∀ H, P H → H a = some (.tup vs) ∧ ∀ v ∈ vs, Thg b H v) (hn : vs.length ≤ n) : GU b g P σ n (tVar i) := fun H Q hB p q => ⟨_, e, q H a vs .refl hB (h H p).1 (h H p).2 hn⟩
theorem gu_tup1 {te : TE} (h : GT b g P σ te) : GU b g P σ 1 (tTup (tCons te tNil)) := fun H Q hB p q => h H _ hB p fun H1 v bl hB1 tv => ⟨by show 1 ≤ sizeLine; decide, fun a na => by
  have s := same_upd (o := HO.tup [v]) na
  exact q _ a [v] (bl.trans (.same s)) (hB1.same s) upd_same (fun x hx => by rw [List.mem_singleton.mp hx]; exact tv.same s) (Nat.le_refl 1)⟩
theorem gu_cat {n m : Nat} {t1 t2 : TE} (st : Stb b P) (h1 : GU b g P σ n t1) (h2 : GU b g P σ m t2) (hnm : n + m ≤ 100000) : GU b g P σ (n + m) (tOp (rCatA K) t1 t2) := fun H Q hB p q =>
  h1 H _ hB p fun H1 a vs bl1 hB1 ha tv hl => h2 H1 _ hB1 (st _ _ p bl1) fun H2 c ws bl2 hB2 hc tw hm => by
    have ha2 := bl2 _ _ (by simpa using hB1.nt.ne ha) ha
    have tv2 : ∀ v ∈ vs, Thg b H2 v := fun v hv => (tv v hv).bl bl2
    refine ⟨a, c, vs, ws, rfl, rfl, .of ha2, .of hc, Nat.le_trans (show vs.length + ws.length ≤ 100000 by omega) (by decide), fun _ => q _ c ws (bl1.trans bl2) hB2 hc tw (by omega), fun _ _ => q _ a vs (bl1.trans bl2) hB2 ha2 tv2 (by omega), fun _ _ x nx => ?_⟩
    have s := same_upd (o := HO.tup (vs ++ ws)) nx
    refine q _ x (vs ++ ws) ((bl1.trans bl2).trans (.same s)) (hB2.same s) upd_same (fun v hv => ?_) (by rw [List.length_append]; omega)
    rcases List.mem_append.mp hv with z | z
    · exact (tv2 v z).same s
    · exact (tw v z).same s
theorem cut_mem {xs : List V} {lo hi : Option Int} {v : V} (h : v ∈ cutV xs lo hi) : v ∈ xs := List.mem_of_mem_drop (List.mem_of_mem_take h)
theorem cut_len {xs : List V} {lo hi : Option Int} : (cutV xs lo hi).length ≤ xs.length := by
  unfold cutV
  rw [List.length_take, List.length_drop]
  omega
theorem gu_slc {n : Nat} {te : TE} {lo hi : Option Int} (h : GU b g P σ n te) {tl th : TO} (hl : ∀ H (Q : Option Int → Hp → Prop), Q lo H → tl σ H Q) (hh : ∀ H (Q : Option Int → Hp → Prop), Q hi H → th σ H Q) : GU b g P σ n (tSl (rSlA K) te tl th) := fun H Q hB p q =>
  h H _ hB p fun H1 a vs bl1 hB1 ha tv hlen => hl _ _ (hh _ _ ⟨a, vs, rfl, .of ha, fun _ => q _ a vs bl1 hB1 ha tv hlen, fun _ x nx => by
    have s := same_upd (o := HO.tup (cutV vs lo hi)) nx
    exact q _ x _ (bl1.trans (.same s)) (hB1.same s) upd_same (fun v hv => (tv v (cut_mem hv)).same s) (Nat.le_trans cut_len hlen)⟩)
theorem to_no (H : Hp) (Q : Option Int → Hp → Prop) (q : Q none H) : tNoPart σ H Q := q
theorem to_var {i : Nat} {n : Int} (e : σ[i]? = some (some (.int n))) (H : Hp) (Q : Option Int → Hp → Prop) (q : Q (some n) H) : tPart (tVar i) σ H Q := ⟨_, e, n, rfl, q⟩
theorem gu_rep {te : TE} {k : Int} (h : GT b g P σ te) (h2 : 2 ≤ k) (hk : k ≤ 1000) : GU b g P σ k.toNat (tOp (rRepT K) (tTup (tCons te tNil)) (tC (.int k))) := fun H Q hB p q =>
  h H _ hB p fun H1 v bl hB1 tv => ⟨by show 1 ≤ sizeLine; decide, fun a na => by
    have s := same_upd (o := HO.tup [v]) na
    refine ⟨a, k, [v], rfl, rfl, .of upd_same, by simp, h2, hk, by show 1 ≤ 1000; decide, fun x nx => ?_⟩
    have s2 := same_upd (o := HO.tup (List.replicate k.toNat [v]).flatten) nx
    refine q _ x _ (bl.trans (.same (s.trans s2))) (hB1.same (s.trans s2)) upd_same (fun u hu => ?_) ?_
    · obtain ⟨l, hl, hu⟩ := List.mem_flatten.mp hu
      rw [(List.mem_replicate.mp hl).2, List.mem_singleton] at hu
      rw [hu]
      exact tv.same (s.trans s2)
    · rw [List.length_flatten, List.map_replicate]
      simp⟩
theorem gu_ix {i n : Nat} {j : Int} {p0 a : Addr} {xs vs : List V} (e : σ[i]? = some (some (.ref p0))) (h : ∀ H, P H → H p0 = some (.tup xs) ∧ H a = some (.tup vs) ∧ ∀ v ∈ vs, Thg b H v) (hj : atI xs j = some (.ref a)) (hn : vs.length ≤ n) : GU b g P σ n (tOp (rIxT K) (tVar i) (tC (.int j))) := fun H Q hB p q =>
  ⟨_, e, p0, xs, j, _, rfl, rfl, .of (h H p).1, hj, q H a vs .refl hB (h H p).2.1 (h H p).2.2 hn⟩
theorem gu_ixl {i k n : Nat} {j : Int} {p0 a : Addr} {xs vs : List V} (e : σ[i]? = some (some (.ref p0))) (ek : σ[k]? = some (some (.int j))) (h : ∀ H, P H → H p0 = some (.lst xs) ∧ H a = some (.tup vs) ∧ ∀ v ∈ vs, Thg b H v) (hj : atI xs j = some (.ref a)) (hn : vs.length ≤ n) : GU b g P σ n (tOp (rIxL K) (tVar i) (tVar k)) := fun H Q hB p q =>
  ⟨_, e, _, ek, p0, xs, j, _, rfl, rfl, .of (h H p).1, hj, q H a vs .refl hB (h H p).2.1 (h H p).2.2 hn⟩
theorem gt_listof {n : Nat} {te : TE} (h : GU b g P σ n te) : GT b g P σ (tCB (fun xs H Q => ∃ p ys, xs = [V.ref p] ∧ (SqL K H p ys ∨ SqT K H p ys) ∧ ∀ l, H l = none → Q (V.ref l) (upd H l (HO.lst ys))) (tCons te tNil)) := fun H Q hB p q =>
  h H _ hB p fun H1 a vs bl hB1 ha tv hl => ⟨a, vs, rfl, .inr (.of ha), fun l nl => by
    have s := same_upd (o := HO.lst vs) nl
    exact q _ _ (bl.trans (.same s)) (hB1.same s) (.lst upd_same (hB1.nb nl))⟩
theorem gt_any {n : Nat} {te : TE} (e : σ[0]? = some (some (.ref b))) (h : GL b g P σ n te) (h0 : 0 < n) (hn : n ≤ 1000) : GT b g P σ (tCall spAny [] E0 (tCons (tVar 0) (tCons te tNil))) := fun H Q hB p q =>
  ⟨_, e, h H _ hB p fun H1 l vs bl hB1 nl hl tv hlen => ⟨b, g, l, vs, rfl, hB1, hl, hB.nb nl, (fun z => by rw [z] at hlen; simp at hlen; omega), by omega, fun H2 v bl2 hB2 hv => q H2 v (bl.trans bl2) hB2 ((tv v hv).bl bl2)⟩⟩
end
def Gd (b ca ga p : Addr) (H : Hp) (xs ys : List V) : Prop := H p = some (.tup [.ref ca, .ref ga]) ∧ H ca = some (.tup xs) ∧ H ga = some (.tup ys) ∧ Thg b H (.ref ca) ∧ Thg b H (.ref ga)
/-- clauses have a body and a head -/
def ClL (H : Hp) (xs : List V) : Prop := ∀ x ∈ xs, ∃ pc pb ph bs, x = .ref pc ∧ H pc = some (.tup [.ref pb, .ref ph]) ∧ H pb = some (.tup bs) ∧ bs.length ≤ 4
def GrL (H : Hp) (ys : List V) : Prop := ∀ y ∈ ys, ∃ pg fs, y = .ref pg ∧ H pg = some (.tup fs) ∧ fs.length ≤ 1000
def spSpoilt : Sp := fun vs H Q _ => ∃ (b g p ca ga : Addr) (cs : List Cz) (gs : List (List Fc)), vs = [.ref b, .ref p] ∧ HandAt H b g ∧ H p = some (.tup [.ref ca, .ref ga]) ∧ ClsAt H ca cs ∧ GrsAt H ga gs ∧ GR cs gs ∧
  ∀ H' t c d, BL [b] H H' → HandAt H' b g → H' t = some (.tup [c, d]) → Thg b H' c → Thg b H' d → Q (.ref t) H'
end L2.My
end
section
set_option Elab.async false
set_option linter.all false
set_option maxRecDepth 100000
set_option maxHeartbeats 8000000
namespace L2.My
open PySem PySem.Spec PyProof.Rows
theorem stb_bl (b : Addr) (H0 : Hp) : Stb b fun G => BL [b] H0 G := fun _ _ h s => h.trans s
/-- the two lists, as they stand -/
structure SpI (b g : Addr) (l1 l2 : Addr) (H G : Hp) (xs ys : List V) : Prop where
  bl : BL [b] H G
  hb : HandAt G b g
  h1 : G l1 = some (.lst xs)
  h2 : G l2 = some (.lst ys)
  t1 : ∀ x ∈ xs, Thg b G x
  t2 : ∀ x ∈ ys, Thg b G x
  n1 : xs.length ≤ 1000
  n2 : ys.length ≤ 1000
theorem SpI.step {b g l1 l2 : Addr} {H G G' : Hp} {xs ys : List V} (h : SpI b g l1 l2 H G xs ys) (e1 : l1 ≠ b) (e2 : l2 ≠ b) (s : BL [b] G G') (hb : HandAt G' b g) : SpI b g l1 l2 H G' xs ys :=
  ⟨h.bl.trans s, hb, s _ _ (by simpa using e1) h.h1, s _ _ (by simpa using e2) h.h2, fun x hx => (h.t1 x hx).bl s, fun x hx => (h.t2 x hx).bl s, h.n1, h.n2⟩
theorem SpI.set1 {b g l1 l2 : Addr} {H G : Hp} {xs ys : List V} {n : Nat} {v : V} (h : SpI b g l1 l2 H G xs ys) (nl : H l1 = none) (e1 : l1 ≠ b) (e1g : l1 ≠ g) (ne : l2 ≠ l1) (tv : Thg b G v) : SpI b g l1 l2 H (L2.upd G l1 (.lst (xs.set n v))) (xs.set n v) ys :=
  ⟨BL.put h.bl nl, h.hb.put e1 e1g, upd_same, by rw [upd_ne ne]; exact h.h2, fun x hx => (by
    rcases List.mem_or_eq_of_mem_set hx with z | z
    · exact (h.t1 x z).put h.h1
    · rw [z]; exact tv.put h.h1), fun x hx => (h.t2 x hx).put h.h1, by rw [List.length_set]; exact h.n1, h.n2⟩
theorem SpI.set2 {b g l1 l2 : Addr} {H G : Hp} {xs ys : List V} {n : Nat} {v : V} (h : SpI b g l1 l2 H G xs ys) (nl : H l2 = none) (e1 : l2 ≠ b) (e1g : l2 ≠ g) (ne : l2 ≠ l1) (tv : Thg b G v) : SpI b g l1 l2 H (L2.upd G l2 (.lst (ys.set n v))) xs (ys.set n v) :=
  ⟨BL.put h.bl nl, h.hb.put e1 e1g, by rw [upd_ne (Ne.symm ne)]; exact h.h1, upd_same, fun x hx => (h.t1 x hx).put h.h2, fun x hx => (by
    rcases List.mem_or_eq_of_mem_set hx with z | z
    · exact (h.t2 x z).put h.h2
    · rw [z]; exact tv.put h.h2), h.n1, by rw [List.length_set]; exact h.n2⟩
theorem ixN_nat {n j : Nat} (h : j < n) : ixN n (j : Int) = some j := by
  unfold ixN
  rw [if_pos (by omega), if_pos (by omega)]
  simp
section
variable {P : Program} {w : World} {K : PySem.W.Frag} {mg : Str → Option Value} {base : Heap}
theorem scSp : FnScope nSp ["hand", "parts"] (defScope sSpoilt) := ⟨rfl, rfl, rfl, by decide +kernel, rfl, by decide +kernel, by decide +kernel⟩
theorem ok_spoilt {f : Addr} {fd : FuncData} {k : Nat} (F : Fun K "_law_spoilt" "_law_spoilt" sSpoilt f fd) (T : Tx mg) (cD : Cal P w K mg base (k + 4) "_law_draw" ["hand", "many"] spDraw) (cA : Cal P w K mg base (k + 4) "_law_any" ["hand", "items"] spAny) (cB : Cal P w K mg base (k + 4) "_law_bad_fact" ["hand"] spNest) (cN : Cal P w K mg base (k + 4) "_law_nested" ["hand"] spNest) : FnOk P w K mg base CX0 (k + 5) f fd ["hand", "parts"] spSpoilt := by
  refine F.ok scSp (fun vs H Q E h => ?_) (fun cdv A outer s H vs Q E hr h => ?_)
  · obtain ⟨b, g, p, ca, ga, cs, gs, rfl, _⟩ := h
    rfl
  · obtain ⟨b, g, p, ca, ga, cs, gs, rfl, hB, hp, hC, hGr, hG, q⟩ := h
    refine ⟨_, (pss_cons (ps_par3 (i := 2) (j := 3) (l := 4) rfl scSp.nd rfl rfl rfl (by decide) (by decide) (by decide) rfl rfl rfl (pa_cons (pe_callTy call_list_of (by rfl) T.list_ (by decide +kernel) (pa_cons (pe_ix ix_tup (pv 1) pe_int (fun _ _ => rfl)) pa_nil)) (pa_cons (pe_callTy call_list_of (by rfl) T.list_ (by decide +kernel) (pa_cons (pe_ix ix_tup (pv 1) pe_int (fun _ _ => rfl)) pa_nil)) (pa_cons (pe_c cD hr (by omega) (by rfl) (pa_cons (pv 0) (pa_cons pe_int pa_nil))) pa_nil))) rfl) (pss_cons (ps_if (pt_and (pt_cmpR op_lt (pv 4) pe_int (nomark _)) (pw_and1 (pt_cmpR op_gt (pe_callB call_len_seq (by rfl) T.len_ PySem.boot_len (pa_cons (pv 2) pa_nil)) pe_int (nomark _)))) (pss_cons (ps_set (i := 5) scSp.nd rfl (Or.inl rfl) (pe_c cD hr (by omega) (by rfl) (pa_cons (pv 0) (pa_cons (pe_callB call_len_seq (by rfl) T.len_ PySem.boot_len (pa_cons (pv 2) pa_nil)) pa_nil)))) (pss_cons (ps_asg (pe_ix ix_list (pv 2) (pv 5) (fun _ _ => rfl)) (pg_tup rfl (pgs_cons (pg_name (i := 6) scSp.nd rfl (Or.inl rfl)) (pgs_cons (pg_name (i := 7) scSp.nd rfl (Or.inl rfl)) pgs_nil)))) (pss_cons (ps_par (i := 8) (j := 9) rfl scSp.nd rfl rfl (by decide) rfl rfl (pa_cons (pe_c cB hr (by omega) (by rfl) (pa_cons (pv 0) pa_nil)) (pa_cons (pe_c cD hr (by omega) (by rfl) (pa_cons (pv 0) (pa_cons (pe_op op_add (pe_callB call_len_seq (by rfl) T.len_ PySem.boot_len (pa_cons (pv 6) pa_nil)) pe_int) pa_nil))) pa_nil)) rfl) (pss_cons (ps_set (i := 10) scSp.nd rfl (Or.inl rfl) (pe_lst (pa_cons (pe_tup (pa_cons (pv 6) (pa_cons (pv 8) pa_nil))) (pa_cons (pe_tup (pa_cons (pe_op op_catA (pe_op op_catA (pe_slice sl_tupA (pv 6) po_none (po_some (pv 9))) (pe_tup (pa_cons (pv 8) pa_nil))) (pe_slice sl_tupA (pv 6) (po_some (pv 9)) po_none)) (pa_cons (pv 7) pa_nil))) (pa_cons (pe_tup (pa_cons (pe_callTy call_list_of (by rfl) T.list_ (by decide +kernel) (pa_cons (pv 6) pa_nil)) (pa_cons (pv 7) pa_nil))) (pa_cons (pe_lst (pa_cons (pv 6) (pa_cons (pv 7) pa_nil))) (pa_cons (pe_tup (pa_cons (pv 6) pa_nil)) pa_nil))))))) (pss_cons (ps_set (i := 10) scSp.nd rfl (Or.inl rfl) (pe_op op_cat (pv 10) (pe_lst (pa_cons pe_non (pa_cons (pe_tup (pa_cons (pv 6) (pa_cons (pv 7) (pa_cons pe_int pa_nil)))) (pa_cons (pe_tup (pa_cons (pv 7) (pa_cons (pv 6) pa_nil))) (pa_cons (pe_tup (pa_cons (pe_op op_catA (pv 6) (pe_op op_repT (pe_tup (pa_cons (pv 7) pa_nil)) pe_int)) (pa_cons (pv 7) pa_nil))) (pa_cons (pe_c cN hr (by omega) (by rfl) (pa_cons (pv 0) pa_nil)) pa_nil)))))))) (pss_one (ps_asg (pe_c cA hr (by omega) (by rfl) (pa_cons (pv 0) (pa_cons (pv 10) pa_nil))) (pg_sub (pv 2) (pv 5) set_list)))))))) (pss_one (ps_if (pt_and (pt_cmpR op_lt (pv 4) pe_int (nomark _)) (pw_and1 (pt_cmpR op_gt (pe_callB call_len_seq (by rfl) T.len_ PySem.boot_len (pa_cons (pv 3) pa_nil)) pe_int (nomark _)))) (pss_cons (ps_set (i := 5) scSp.nd rfl (Or.inl rfl) (pe_c cD hr (by omega) (by rfl) (pa_cons (pv 0) (pa_cons (pe_callB call_len_seq (by rfl) T.len_ PySem.boot_len (pa_cons (pv 3) pa_nil)) pa_nil)))) (pss_cons (ps_set (i := 9) scSp.nd rfl (Or.inl rfl) (pe_c cD hr (by omega) (by rfl) (pa_cons (pv 0) (pa_cons (pe_op op_add (pe_callB call_len_seq (by rfl) T.len_ PySem.boot_len (pa_cons (pe_ix ix_list (pv 3) (pv 5) (fun _ _ => rfl)) pa_nil)) pe_int) pa_nil)))) (pss_cons (ps_set (i := 11) scSp.nd rfl (Or.inl rfl) (pe_op op_catA (pe_op op_catA (pe_slice sl_tupA (pe_ix ix_list (pv 3) (pv 5) (fun _ _ => rfl)) po_none (po_some (pv 9))) (pe_tup (pa_cons (pe_c cB hr (by omega) (by rfl) (pa_cons (pv 0) pa_nil)) pa_nil))) (pe_slice sl_tupA (pe_ix ix_list (pv 3) (pv 5) (fun _ _ => rfl)) (po_some (pv 9)) po_none))) (pss_one (ps_asg (pe_c cA hr (by omega) (by rfl) (pa_cons (pv 0) (pa_cons (pe_lst (pa_cons (pv 11) (pa_cons (pv 11) (pa_cons (pe_callTy call_list_of (by rfl) T.list_ (by decide +kernel) (pa_cons (pe_ix ix_list (pv 3) (pv 5) (fun _ _ => rfl)) pa_nil)) (pa_cons pe_non (pa_cons pe_str (pa_cons pe_dnewK (pa_cons (pe_c cN hr (by omega) (by rfl) (pa_cons (pv 0) pa_nil)) pa_nil)))))))) pa_nil))) (pg_sub (pv 3) (pv 5) set_list)))))) (pss_one (ps_if (pt_cmpR op_eq (pv 4) pe_int (nomark _)) (pss_cons (ps_set (i := 10) scSp.nd rfl (Or.inl rfl) (pe_c cA hr (by omega) (by rfl) (pa_cons (pv 0) (pa_cons (pe_lst (pa_cons (pv 2) (pa_cons pe_non (pa_cons pe_str (pa_cons pe_dnewK (pa_cons pe_int (pa_cons (pe_c cN hr (by omega) (by rfl) (pa_cons (pv 0) pa_nil)) pa_nil))))))) pa_nil)))) (pss_one (ps_ret (pe_tup (pa_cons (pv 10) (pa_cons (pe_c cA hr (by omega) (by rfl) (pa_cons (pv 0) (pa_cons (pe_lst (pa_cons (pe_ix ix_tup (pv 1) pe_int (fun _ _ => rfl)) (pa_cons pe_non (pa_cons (pv 3) pa_nil)))) pa_nil))) pa_nil)))))) (pss_one (ps_if (pt_cmpR op_eq (pv 4) pe_int (nomark _)) (pss_one (ps_ret (pe_tup (pa_cons (pe_ix ix_tup (pv 1) pe_int (fun _ _ => rfl)) (pa_cons (pe_c cA hr (by omega) (by rfl) (pa_cons (pv 0) (pa_cons (pe_lst (pa_cons (pv 3) (pa_cons pe_non (pa_cons (pe_op op_repT (pe_tup (pa_cons pe_non pa_nil)) pe_int) (pa_cons (pe_op op_catA (pe_ix ix_tup (pv 1) pe_int (fun _ _ => rfl)) (pe_op op_repT (pe_tup (pa_cons (pe_tup pa_nil) pa_nil)) pe_int)) (pa_cons pe_dnewK (pa_cons (pe_op op_repT (pe_tup (pa_cons (pe_tup pa_nil) pa_nil)) pe_int) (pa_cons pe_str pa_nil)))))))) pa_nil))) pa_nil))))) pss_nil))))))) (pss_one (ps_ret (pe_tup (pa_cons (pe_tupleOf (by rfl) T.tuple_ (pv 2)) (pa_cons (pe_tupleOf (by rfl) T.tuple_ (pv 3)) pa_nil))))))), ?_⟩
    have tc : Thg b H (.ref ca) := thg_cls hB.nt hC hG.cl (by have := hG.nc; omega)
    have tg : Thg b H (.ref ga) := thg_grs hB.nt hGr (fun x hx => ⟨hG.gr x hx, by have := hG.nf x hx; omega⟩) (by have := hG.ng; omega)
    obtain ⟨cas, hca, hcp⟩ := id hC
    obtain ⟨gas, hga, hgp⟩ := id hGr
    have lc := Paired.len hcp
    have lg := Paired.len hgp
    have hnc := hG.nc
    have hng := hG.ng
    refine seq_par3 ⟨_, rfl, p, _, _, .ref ca, rfl, rfl, .of hp, atI_nat (j := 0) rfl, ca, _, rfl, .inr (.of hca), fun l1 nl1 => ?_⟩
    have s1 := same_upd (o := HO.lst (cas.map V.ref)) nl1
    refine ⟨_, rfl, p, _, _, .ref ga, rfl, rfl, .of (s1 _ _ hp), atI_nat (j := 1) rfl, ga, _, rfl, .inr (.of (s1 _ _ hga)), fun l2 nl2 => ?_⟩
    have s2 := same_upd (o := HO.lst (gas.map V.ref)) nl2
    have s12 := s1.trans s2
    have ne12 : l2 ≠ l1 := fun z => by rw [z, upd_same] at nl2; cases nl2
    have nl2H := s1.free nl2
    have e1 := hB.nb nl1
    have e2 := hB.nb nl2H
    have e1g := hB.ng nl1
    have e2g := hB.ng nl2H
    refine ⟨_, rfl, b, g, 10, rfl, hB.same s12, by decide, by decide, fun H3 kd bl3 hB3 hk0 hk1 => ⟨_, _, _, rfl, ?_⟩⟩
    have si : SpI b g l1 l2 H H3 (cas.map V.ref) (gas.map V.ref) := SpI.step (G := upd (upd H l1 (.lst (cas.map V.ref))) l2 (.lst (gas.map V.ref))) ⟨.same s12, hB.same s12, s2 _ _ upd_same, upd_same, fun x hx => ((tc.sub hca).2 x hx).same s12, fun x hx => ((tg.sub hga).2 x hx).same s12, by rw [List.length_map]; omega, by rw [List.length_map]; omega⟩ e1 e2 bl3 hB3
    refine seq_use (fun σ G => ∃ (xs ys : List V) (y4 y5 y6 y7 y8 y9 y10 y11 : Option V), σ = [some (.ref b), some (.ref p), some (.ref l1), some (.ref l2), y4, y5, y6, y7, y8, y9, y10, y11] ∧ SpI b g l1 l2 H G xs ys) ?_ (fun hrest => ?_)
    · rintro σ G ⟨xs, ys, y4, y5, y6, y7, y8, y9, y10, y11, rfl, si⟩
      refine ⟨_, rfl, .inl ⟨l1, xs, rfl, SqL.of si.h1, fun t1 nt1 => ?_⟩⟩
      have u1 := same_upd (o := HO.tup xs) nt1
      refine ⟨_, rfl, .inl ⟨l2, ys, rfl, SqL.of (u1 _ _ si.h2), fun t2 nt2 => ⟨by show 2 ≤ sizeLine; decide, fun t nt => ?_⟩⟩⟩
      have u2 := same_upd (o := HO.tup ys) nt2
      have u3 := same_upd (o := HO.tup [.ref t1, .ref t2]) nt
      have u := u1.trans (u2.trans u3)
      refine q _ t _ _ (si.bl.trans (.same u)) (si.hb.same u) upd_same (.tup (u3 _ _ (u2 _ _ upd_same)) (si.hb.nb nt1) (by have := si.n1; omega) fun x hx => (si.t1 x hx).same u) (.tup (u3 _ _ upd_same) (si.hb.nb (u1.free nt2)) (by have := si.n2; omega) fun x hx => (si.t2 x hx).same u)
    have hrest' : ∀ (σ : St) (G : Hp) (xs ys : List V) (y4 y5 y6 y7 y8 y9 y10 y11 : Option V), σ = [some (.ref b), some (.ref p), some (.ref l1), some (.ref l2), y4, y5, y6, y7, y8, y9, y10, y11] → SpI b g l1 l2 H G xs ys → _ := fun σ G xs ys y4 y5 y6 y7 y8 y9 y10 y11 e si => hrest σ G ⟨xs, ys, y4, y5, y6, y7, y8, y9, y10, y11, e, si⟩
    refine ⟨_, rfl, _, _, rfl, rfl, _, rfl, ?_⟩
    refine ite2 (fun _ => ⟨_, rfl, l1, _, rfl, .inl (SqL.of si.h1), _, _, rfl, rfl, _, rfl, ite2 (fun hl0 => ?x1) (fun _ => ?x2)⟩) (fun _ => ?x3)
    case x1 =>
        have hl0' := of_decide_eq_true hl0
        rw [List.length_map] at hl0'
        try dsimp only
        refine seq_set ?_
        refine ⟨_, rfl, _, rfl, l1, _, rfl, .inl (SqL.of si.h1), b, g, _, rfl, hB3, by rw [List.length_map]; omega, by rw [List.length_map]; omega, fun H4 r bl4 hB4 hr0 hr1 => ?_⟩
        have si4 := si.step e1 e2 bl4 hB4
        rw [List.length_map] at hr1
        obtain ⟨n, rfl⟩ : ∃ n : Nat, r = n := ⟨r.toNat, by omega⟩
        have hn : n < cas.length := by omega
        have hcn : cas[n]? = some cas[n] := List.getElem?_eq_getElem hn
        obtain ⟨c0, hc0, pb, ph, hpc, ⟨bs, hpb, hbp⟩, hph⟩ := Paired.at' hcp hcn
        have gc := hG.cl c0 (List.mem_of_getElem? hc0)
        have lb := Paired.len hbp
        have tpc : Thg b H (.ref cas[n]) := (tc.sub hca).2 _ (List.mem_map_of_mem (List.getElem_mem hn))
        have tpb : Thg b H (.ref pb) := (tpc.sub hpc).2 _ (by simp)
        have tph : Thg b H (.ref ph) := (tpc.sub hpc).2 _ (by simp)
        have npc := hB.nt.ne hpc
        have npb := hB.nt.ne hpb
        refine ⟨_, rfl, _, rfl, l1, _, _, .ref cas[n], rfl, rfl, .of si4.h1, atI_nat (by rw [List.getElem?_map, hcn]; rfl), cas[n], _, rfl, .of (si4.bl _ _ (by simpa using npc) hpc), rfl, _, _, rfl, _, _, rfl, rfl, ?_⟩
        try dsimp only
        refine seq_par ?_
        refine ⟨_, rfl, b, g, rfl, hB4, fun H5 bad bl5 hB5 tbad => ⟨_, rfl, _, rfl, pb, _, rfl, .inr (.of ((si4.bl.trans bl5) _ _ (by simpa using npb) hpb)), _, _, rfl, rfl, b, g, _, rfl, hB5, by omega, by rw [List.length_map]; have := gc.1; omega, fun H6 pl bl6 hB6 hp0 hp1 => ⟨_, _, rfl, ?_⟩⟩⟩
        have si6 := (si4.step e1 e2 bl5 hB5).step e1 e2 bl6 hB6
        have tb6 := tpb.bl si6.bl
        have th6 := tph.bl si6.bl
        have tbad6 := tbad.bl bl6
        have hpb6 := si6.bl _ _ (by simpa using npb) hpb
        have lbs : (bs.map V.ref).length ≤ 4 := by rw [List.length_map]; have := gc.1; omega
        have st := stb_bl b H6
        have vb : ∀ {σ : St}, σ[6]? = some (some (.ref pb)) → GU b g (fun G => BL [b] H6 G) σ 4 (tVar 6) := fun e => gu_var e (fun G s => ⟨s _ _ (by simpa using npb) hpb6, fun v hv => ((tb6.sub hpb6).2 v hv).bl s⟩) lbs
        have vh : ∀ {σ : St}, σ[7]? = some (some (.ref ph)) → GT b g (fun G => BL [b] H6 G) σ (tVar 7) := fun e => gt_var e fun G s => th6.bl s
        have vd : ∀ {σ : St}, σ[8]? = some (some bad) → GT b g (fun G => BL [b] H6 G) σ (tVar 8) := fun e => gt_var e fun G s => tbad6.bl s
        have vbt : ∀ {σ : St}, σ[6]? = some (some (.ref pb)) → GT b g (fun G => BL [b] H6 G) σ (tVar 6) := fun e => gu_gt (vb e) (by decide)
        try dsimp only
        refine seq_set ?_
        refine gl_lst' (b := b) (g := g) (P := fun G => BL [b] H6 G) (n := 5) ?_ (by decide) H6 _ hB6 .refl fun H7 o1 vs1 bl7 hB7 no1 ho1 to1 hn1 => ?_
        · refine ga_cons st (gt_tupB (gb_cons st (vbt rfl) (gb_cons st (vd rfl) gb_nil))) ?_
          refine ga_cons st (gt_tupB (gb_cons st (gu_gt (gu_cat st (gu_cat st (gu_slc (vb rfl) to_no (to_var rfl)) (gu_tup1 (vd rfl)) (by decide)) (gu_slc (vb rfl) (to_var rfl) to_no) (by decide)) (by decide)) (gb_cons st (vh rfl) gb_nil))) ?_
          refine ga_cons st (gt_tupB (gb_cons st (gt_listof (vb rfl)) (gb_cons st (vh rfl) gb_nil))) ?_
          refine ga_cons st (gt_lstB (gb_cons st (vbt rfl) (gb_cons st (vh rfl) gb_nil))) ?_
          exact ga_cons st (gt_tupB (gb_cons st (vbt rfl) gb_nil)) ga_nil
        try dsimp only
        refine seq_set ?_
        refine ⟨_, rfl, ?_⟩
        refine gl_lst' (b := b) (g := g) (P := fun G => BL [b] H6 G) (n := 5) ?_ (by decide) H7 _ hB7 bl7 fun H8 o2 vs2 bl8 hB8 no2 ho2 to2 hn2 => ?_
        · refine ga_cons st gt_non ?_
          refine ga_cons st (gt_tupB (gb_cons st (vbt rfl) (gb_cons st (vh rfl) (gb_cons st (gt_int 0) gb_nil)))) ?_
          refine ga_cons st (gt_tupB (gb_cons st (vh rfl) (gb_cons st (vbt rfl) gb_nil))) ?_
          refine ga_cons st (gt_tupB (gb_cons st (gu_gt (gu_cat st (vb rfl) (gu_rep (k := 5) (vh rfl) (by decide) (by decide)) (by decide)) (by decide)) (gb_cons st (vh rfl) gb_nil))) ?_
          exact ga_cons st (gt_nest rfl) ga_nil
        have no1b := hB6.nb no1
        refine ⟨o1, o2, vs1, vs2, rfl, rfl, bl8 _ _ (by simpa using no1b) ho1, ho2, Nat.le_trans (show vs1.length + vs2.length ≤ 1000 by omega) (by decide), fun o3 no3 => ?_⟩
        have s9 := same_upd (o := HO.lst (vs1 ++ vs2)) no3
        have si9 := ((si6.step e1 e2 bl7 hB7).step e1 e2 bl8 hB8).step e1 e2 (.same s9) (hB8.same s9)
        refine ⟨_, rfl, _, rfl, b, g, o3, _, rfl, hB8.same s9, upd_same, hB8.nb no3, (fun z => by have := congrArg List.length z; rw [List.length_append, List.length_nil] at this; omega), by rw [List.length_append]; omega, fun H10 v bl10 hB10 hv => ?_⟩
        have tv : Thg b H10 v := by
          refine Thg.bl ?_ bl10
          rcases List.mem_append.mp hv with z | z
          · exact ((to1 v z).bl bl8).same s9
          · exact (to2 v z).same s9
        have si10 := si9.step e1 e2 bl10 hB10
        refine ⟨_, rfl, _, rfl, l1, _, _, n, rfl, rfl, si10.h1, ixN_nat (by rw [List.length_map]; exact hn), ?_⟩
        exact hrest _ _ ⟨_, _, _, _, _, _, _, _, _, _, rfl, si10.set1 nl1 e1 e1g ne12 tv⟩
    all_goals
      refine ⟨_, rfl, _, _, rfl, rfl, _, rfl, ?_⟩
      refine ite2 (fun _ => ⟨_, rfl, l2, _, rfl, .inl (SqL.of si.h2), _, _, rfl, rfl, _, rfl, ite2 (fun hl0 => ?_) (fun _ => ?_)⟩) (fun _ => ?_)
      · have hl0' := of_decide_eq_true hl0
        rw [List.length_map] at hl0'
        try dsimp only
        refine seq_set ?_
        refine ⟨_, rfl, _, rfl, l2, _, rfl, .inl (SqL.of si.h2), b, g, _, rfl, hB3, by rw [List.length_map]; omega, by rw [List.length_map]; omega, fun H4 r bl4 hB4 hr0 hr1 => ?_⟩
        have si4 := si.step e1 e2 bl4 hB4
        rw [List.length_map] at hr1
        obtain ⟨n, rfl⟩ : ∃ n : Nat, r = n := ⟨r.toNat, by omega⟩
        have hn : n < gas.length := by omega
        have hgn : gas[n]? = some gas[n] := List.getElem?_eq_getElem hn
        obtain ⟨g0, hg0, fas, hpg, hfp⟩ := Paired.at' hgp hgn
        have lf := Paired.len hfp
        have gl := hG.nf g0 (List.mem_of_getElem? hg0)
        have tpg : Thg b H (.ref gas[n]) := (tg.sub hga).2 _ (List.mem_map_of_mem (List.getElem_mem hn))
        have npg := hB.nt.ne hpg
        have hat : atI (gas.map V.ref) (n : Int) = some (.ref gas[n]) := atI_nat (by rw [List.getElem?_map, hgn]; rfl)
        try dsimp only
        refine seq_set ?_
        refine ⟨_, rfl, _, rfl, _, rfl, l2, _, _, .ref gas[n], rfl, rfl, .of si4.h2, hat, gas[n], _, rfl, .inr (.of (si4.bl _ _ (by simpa using npg) hpg)), _, _, rfl, rfl, b, g, _, rfl, hB4, by omega, by rw [List.length_map]; omega, fun H5 pl bl5 hB5 hp0 hp1 => ?_⟩
        have si5 := si4.step e1 e2 bl5 hB5
        have st := stb_bl b H5
        have hpg5 := si5.bl _ _ (by simpa using npg) hpg
        have tpg5 := tpg.bl si5.bl
        have vg : ∀ {σ : St}, σ[3]? = some (some (.ref l2)) → σ[5]? = some (some (.int (n : Int))) → GU b g (fun G => BL [b] H5 G) σ 1000 (tOp (rIxL K) (tVar 3) (tVar 5)) := fun e e' => gu_ixl e e' (fun G s => ⟨s _ _ (by simpa using e2) si5.h2, s _ _ (by simpa using npg) hpg5, fun v hv => ((tpg5.sub hpg5).2 v hv).bl s⟩) hat (by rw [List.length_map]; omega)
        try dsimp only
        refine seq_set ?_
        refine (gu_cat st (gu_cat st (gu_slc (vg rfl rfl) to_no (to_var rfl)) (gu_tup1 (gt_nest rfl)) (by decide)) (gu_slc (vg rfl rfl) (to_var rfl) to_no) (by decide)) H5 _ hB5 .refl fun H6 bt vs6 bl6 hB6 hbt tbt lbt => ?_
        have si6 := si5.step e1 e2 bl6 hB6
        have tbt6 : Thg b H6 (.ref bt) := .tup hbt (hB6.nt.ne hbt) (by omega) tbt
        have st6 : Stb b (fun G => BL [b] H5 G ∧ BL [b] H6 G) := fun _ _ h s => ⟨h.1.trans s, h.2.trans s⟩
        have vbt : ∀ {σ : St}, σ[11]? = some (some (.ref bt)) → GT b g (fun G => BL [b] H5 G ∧ BL [b] H6 G) σ (tVar 11) := fun e => gt_var e fun G s => tbt6.bl s.2
        have vg6 : ∀ {σ : St}, σ[3]? = some (some (.ref l2)) → σ[5]? = some (some (.int (n : Int))) → GU b g (fun G => BL [b] H5 G ∧ BL [b] H6 G) σ 1000 (tOp (rIxL K) (tVar 3) (tVar 5)) := fun e e' H Q hB p q => vg e e' H Q hB p.1 q
        refine (gt_any (b := b) (g := g) (P := fun G => BL [b] H5 G ∧ BL [b] H6 G) (n := 7) rfl (gl_lst' ?_ (by decide)) (by decide) (by decide)) H6 _ hB6 ⟨bl6, .refl⟩ fun H7 v bl7 hB7 tv => ?_
        · refine ga_cons st6 (vbt rfl) (ga_cons st6 (vbt rfl) (ga_cons st6 (gt_listof (vg6 rfl rfl)) (ga_cons st6 gt_non (ga_cons st6 (gt_str "a" (by decide)) (ga_cons st6 gt_dct (ga_cons st6 (gt_nest rfl) ga_nil))))))
        have si7 := si6.step e1 e2 bl7 hB7
        refine ⟨_, rfl, _, rfl, l2, _, _, n, rfl, rfl, si7.h2, ixN_nat (by rw [List.length_map]; exact hn), ?_⟩
        exact hrest _ _ ⟨_, _, _, _, _, _, _, _, _, _, rfl, si7.set2 nl2H e2 e2g ne12 tv⟩
      all_goals
        have st := stb_bl b H3
        have tc3 := tc.bl si.bl
        have tg3 := tg.bl si.bl
        have hp3 := si.bl _ _ (by simpa using hB.nt.ne hp) hp
        have hca3 := si.bl _ _ (by simpa using hB.nt.ne hca) hca
        have hga3 := si.bl _ _ (by simpa using hB.nt.ne hga) hga
        have vc : ∀ {σ : St}, σ[1]? = some (some (.ref p)) → GU b g (fun G => BL [b] H3 G) σ 1000 (tOp (rIxT K) (tVar 1) (tC (.int 0))) := fun e => gu_ix e (fun G s => ⟨s _ _ (by simpa using hB.nt.ne hp) hp3, s _ _ (by simpa using hB.nt.ne hca) hca3, fun v hv => ((tc3.sub hca3).2 v hv).bl s⟩) (atI_nat (j := 0) rfl) (by rw [List.length_map]; omega)
        have vgr : ∀ {σ : St}, σ[1]? = some (some (.ref p)) → GU b g (fun G => BL [b] H3 G) σ 1000 (tOp (rIxT K) (tVar 1) (tC (.int 1))) := fun e => gu_ix e (fun G s => ⟨s _ _ (by simpa using hB.nt.ne hp) hp3, s _ _ (by simpa using hB.nt.ne hga) hga3, fun v hv => ((tg3.sub hga3).2 v hv).bl s⟩) (atI_nat (j := 1) rfl) (by rw [List.length_map]; omega)
        have v2 : ∀ {σ : St}, σ[2]? = some (some (.ref l1)) → GT b g (fun G => BL [b] H3 G) σ (tVar 2) := fun e => gt_var e fun G s => .lst (s _ _ (by simpa using e1) si.h1) e1
        have v3 : ∀ {σ : St}, σ[3]? = some (some (.ref l2)) → GT b g (fun G => BL [b] H3 G) σ (tVar 3) := fun e => gt_var e fun G s => .lst (s _ _ (by simpa using e2) si.h2) e2
        refine ⟨_, rfl, rfl, _, rfl, ?_⟩
        refine ite2 (fun _ => ?_) (fun _ => ⟨_, rfl, rfl, _, rfl, ite2 (fun _ => ?_) (fun _ => hrest _ _ ⟨_, _, _, _, _, _, _, _, _, _, rfl, si⟩)⟩)
        · try dsimp only
          refine seq_set ?_
          refine (gt_any (b := b) (g := g) (P := fun G => BL [b] H3 G) (n := 6) rfl (gl_lst' ?_ (by decide)) (by decide) (by decide)) H3 _ hB3 .refl fun H4 v bl4 hB4 tv => ?_
          · exact ga_cons st (v2 rfl) (ga_cons st gt_non (ga_cons st (gt_str "rule" (by decide)) (ga_cons st gt_dct (ga_cons st (gt_int 0) (ga_cons st (gt_nest rfl) ga_nil)))))
          refine ⟨_, rfl, (gt_any (b := b) (g := g) (P := fun G => BL [b] H3 G) (n := 3) rfl (gl_lst' ?_ (by decide)) (by decide) (by decide)) H4 _ hB4 bl4 fun H5 u bl5 hB5 tu => ⟨by show 2 ≤ sizeLine; decide, fun t nt => ?_⟩⟩
          · exact ga_cons st (gu_gt (vgr rfl) (by decide)) (ga_cons st gt_non (ga_cons st (v3 rfl) ga_nil))
          have s6 := same_upd (o := HO.tup [v, u]) nt
          exact q _ t v u (((si.bl.trans bl4).trans bl5).trans (.same s6)) (hB5.same s6) upd_same ((tv.bl bl5).same s6) (tu.same s6)
        · refine (gu_gt (vc rfl) (by decide)) H3 _ hB3 .refl fun H4 v bl4 hB4 tv => ?_
          refine (gt_any (b := b) (g := g) (P := fun G => BL [b] H3 G) (n := 7) rfl (gl_lst' ?_ (by decide)) (by decide) (by decide)) H4 _ hB4 bl4 fun H5 u bl5 hB5 tu => ⟨by show 2 ≤ sizeLine; decide, fun t nt => ?_⟩
          · refine ga_cons st (v3 rfl) (ga_cons st gt_non (ga_cons st (gu_gt (gu_rep (k := 61) gt_non (by decide) (by decide)) (by decide)) (ga_cons st (gu_gt (gu_cat st (vgr rfl) (gu_rep (k := 60) (gt_tupB gb_nil) (by decide) (by decide)) (by decide)) (by decide)) (ga_cons st gt_dct (ga_cons st (gu_gt (gu_rep (k := 60) (gt_tupB gb_nil) (by decide) (by decide)) (by decide)) (ga_cons st (gt_str "a" (by decide)) ga_nil))))))
          have s6 := same_upd (o := HO.tup [v, u]) nt
          exact q _ t v u (((si.bl.trans bl4).trans bl5).trans (.same s6)) (hB5.same s6) upd_same ((tv.bl bl5).same s6) (tu.same s6)
end
end L2.My
end
section
set_option Elab.async false
set_option linter.all false
set_option maxRecDepth 100000
set_option maxHeartbeats 4000000
namespace L2.My
open PySem PySem.Spec PyProof.Rows
abbrev sIs : Stmt := top 25
theorem kitAny_tl {K : PySem.W.Frag} : ∀ t ∈ ["NoneType", "bool", "int", "str", "list", "tuple", "dict"], PySem.W.kitAny K (.type t) [.type "tuple", .type "list"] = some (decide (t = "tuple" ∨ t = "list")) := by
  have h1 : ∀ t ∈ ["NoneType", "bool", "int", "str", "list", "tuple", "dict"], kitB t "list" = some (decide (t = "list")) := by decide +kernel
  have h2 : ∀ t ∈ ["NoneType", "bool", "int", "str", "list", "tuple", "dict"], kitB t "tuple" = some (decide (t = "tuple")) := by decide +kernel
  intro t ht
  refine kitAny_cons (kit_ty (h2 t ht)) (fun e => kitAny_cons (kit_ty (h1 t ht)) (fun e2 => ?_) fun e2 => ?_) fun e => ?_
  · have a := of_decide_eq_false e
    have b := of_decide_eq_false e2
    rw [decide_eq_false (fun z => z.elim a b)]
    rfl
  · exact decide_eq_true (.inr (of_decide_eq_true e2))
  · exact decide_eq_true (.inl (of_decide_eq_true e))
theorem walk_zipT {K : PySem.W.Frag} {a b : Addr} {xs ys : List V} (hl : xs.length = ys.length) : Walk (RZ.ItzT K a b) xs.length (fun H => SqT K H a xs ∧ SqT K H b ys) (YPair (fun i => xs[i]?) (fun i => ys[i]?)) :=
  ⟨fun i H hi ⟨p, q⟩ => ⟨xs, ys, xs[i], ys[i], p, q, List.getElem?_eq_getElem hi, List.getElem?_eq_getElem (hl ▸ hi)⟩, fun H ⟨p, q⟩ => ⟨xs, ys, p, q, .inl (Nat.le_refl _)⟩, fun i H v H' _ ⟨p, q⟩ ⟨T, x, y, h1, h2, h3, h4, h5⟩ => ⟨T, x, y, h1, h2, h3, h4 _ p, h5 _ q⟩⟩
inductive Atm : V → String → Prop where
  | int (i : Int) : Atm (.int i) "int"
  | str (z : Str) : Atm (.str z) "str"
  | non : Atm .non "NoneType"
  | boo (c : Bool) : Atm (.bl c) "bool"
theorem Atm.th {H : Hp} {v : V} {t : String} (h : Atm v t) : ThT H v t ∧ decide (t = "tuple" ∨ t = "list") = false ∧ t ∈ ["NoneType", "bool", "int", "str", "list", "tuple", "dict"] ∧ scal v v = true := by
  cases h with
  | int i => exact ⟨.int i, by decide, by decide, rfl⟩
  | str z => exact ⟨.str z, by decide, by decide, rfl⟩
  | non => exact ⟨.non, by decide, by decide, rfl⟩
  | boo c => exact ⟨.bl c, by decide, by decide, rfl⟩
/-- alike, n deep -/
def EqN (H : Hp) : Nat → V → V → Prop
  | 0, v, v' => (∃ t, Atm v t) ∧ v' = v
  | n + 1, v, v' => ((∃ t, Atm v t) ∧ v' = v) ∨ ∃ (a b : Addr) (xs ys : List V), v = .ref a ∧ v' = .ref b ∧ ((H a = some (.tup xs) ∧ H b = some (.tup ys)) ∨ (H a = some (.lst xs) ∧ H b = some (.lst ys))) ∧ Paired (EqN H n) xs ys ∧ xs.length ≤ 1000000
theorem EqN.same {H H' : Hp} (s : Same H H') : ∀ {n : Nat} {v v' : V}, EqN H n v v' → EqN H' n v v'
  | 0, v, v', h => h
  | n + 1, v, v', h => by
    rcases h with h | ⟨a, b, xs, ys, e1, e2, h1, h2, h3⟩
    · exact .inl h
    · refine .inr ⟨a, b, xs, ys, e1, e2, ?_, Paired.mapP h2 fun _ _ z => EqN.same s z, h3⟩
      rcases h1 with ⟨p, q⟩ | ⟨p, q⟩
      · exact .inl ⟨s _ _ p, s _ _ q⟩
      · exact .inr ⟨s _ _ p, s _ _ q⟩
theorem EqN.atm {H : Hp} {n : Nat} {v : V} {t : String} (h : Atm v t) : EqN H n v v := by
  cases n with
  | zero => exact ⟨⟨_, h⟩, rfl⟩
  | succ n => exact .inl ⟨⟨_, h⟩, rfl⟩
def spIsN (n : Nat) : Sp := fun vs H Q _ => ∃ v v' : V, vs = [v, v'] ∧ EqN H n v v' ∧ ∀ H', Same H H' → Q (.bl true) H'
theorem all_yes (n : Nat) : ((List.range n).map fun _ => true).all id = true := by
  rw [List.all_eq_true]
  intro b hb
  obtain ⟨_, _, rfl⟩ := List.mem_map.mp hb
  rfl
abbrev nIs : List Str := ["given", "due", "one", "two"]
section
variable {P : Program} {w : World} {K : PySem.W.Frag} {mg : Str → Option Value} {base : Heap}
theorem scIs : FnScope nIs ["given", "due"] (defScope sIs) := ⟨rfl, rfl, rfl, by decide +kernel, rfl, by decide +kernel, by decide +kernel⟩
theorem ok_isA {f : Addr} {fd : FuncData} {k : Nat} (F : Fun K "_law_is" "_law_is" sIs f fd) (T : Tx mg) : FnOk P w K mg base CX0 (k + 1) f fd ["given", "due"] (spIsN 0) := by
  refine F.ok scIs (fun vs H Q E h => ?_) (fun cdv A outer s H vs Q E hr h => ?_)
  · obtain ⟨v, v', rfl, _⟩ := h
    rfl
  · obtain ⟨v, v', rfl, ⟨⟨t, at1⟩, rfl⟩, q⟩ := h
    refine ⟨_, (pss_cons (ps_if (pt_val (pe_callB call_isiT (by rfl) T.isi (by decide +kernel) (pa_cons (pv 1) (pa_cons (pe_tup (pa_cons (pe_bltn (v := .ty "tuple") (u := .type "tuple") (by rfl) T.tuple_ (by decide +kernel) rfl) (pa_cons (pe_bltn (v := .ty "list") (u := .type "list") (by rfl) T.list_ (by decide +kernel) rfl) pa_nil))) pa_nil)))) pss_never pss_nil) (pss_one (ps_ret (pe_and (pe_cmpR op_eq (pe_callB call_isTh (by rfl) T.isi (by decide +kernel) (pa_cons (pv 0) (pa_cons (pe_bltn (v := .ty "bool") (u := .type "bool") (by rfl) T.bool_ (by decide +kernel) rfl) pa_nil))) (pe_callB call_isTh (by rfl) T.isi (by decide +kernel) (pa_cons (pv 1) (pa_cons (pe_bltn (v := .ty "bool") (u := .type "bool") (by rfl) T.bool_ (by decide +kernel) rfl) pa_nil))) (nomark _)) (pe_one (pe_cmpR op_eq (pv 0) (pv 1) (nomark _))))))), ?_⟩
    refine ⟨_, rfl, by show 2 ≤ sizeLine; decide, fun tp ntp => ?_⟩
    obtain ⟨h1, h2, h3, h5⟩ := at1.th (H := upd H tp (.tup [.ty "tuple", .ty "list"]))
    refine ⟨v', tp, _, .type t, _, _, rfl, upd_same, .cons (.ty _) (.cons (.ty _) .nil), h1.tyX, kitAny_tl t h3, _, rfl, ?_⟩
    rw [h2]
    refine iteF ?_
    refine ⟨_, rfl, _, "bool", t, rfl, h1, by decide, _, rfl, _, "bool", t, rfl, h1, by decide, rfl, _, rfl, ?_⟩
    rw [decide_eq_true rfl]
    refine iteT ⟨_, rfl, _, rfl, h5, ?_⟩
    rw [decide_eq_true rfl]
    exact q _ (same_upd ntp)
theorem ok_isS {f : Addr} {fd : FuncData} {k n : Nat} (F : Fun K "_law_is" "_law_is" sIs f fd) (T : Tx mg) (cI : Cal P w K mg base (k + 1) "_law_is" ["given", "due"] (spIsN n)) : FnOk P w K mg base CX0 (k + 2) f fd ["given", "due"] (spIsN (n + 1)) := by
  refine F.ok scIs (fun vs H Q E h => ?_) (fun cdv A outer s H vs Q E hr h => ?_)
  · obtain ⟨v, v', rfl, _⟩ := h
    rfl
  · obtain ⟨v, v', rfl, alk, q⟩ := h
    refine ⟨_, (pss_cons (ps_if (pt_val (pe_callB call_isiT (by rfl) T.isi (by decide +kernel) (pa_cons (pv 1) (pa_cons (pe_tup (pa_cons (pe_bltn (v := .ty "tuple") (u := .type "tuple") (by rfl) T.tuple_ (by decide +kernel) rfl) (pa_cons (pe_bltn (v := .ty "list") (u := .type "list") (by rfl) T.list_ (by decide +kernel) rfl) pa_nil))) pa_nil)))) (pss_cons (ps_if (pt_or (pt_cmpR op_ne (pe_callB call_isTh (by rfl) T.isi (by decide +kernel) (pa_cons (pv 0) (pa_cons (pe_bltn (v := .ty "tuple") (u := .type "tuple") (by rfl) T.tuple_ (by decide +kernel) rfl) pa_nil))) (pe_callB call_isTh (by rfl) T.isi (by decide +kernel) (pa_cons (pv 1) (pa_cons (pe_bltn (v := .ty "tuple") (u := .type "tuple") (by rfl) T.tuple_ (by decide +kernel) rfl) pa_nil))) (nomark _)) (pw_or1 (pt_not (pt_val (pe_callB call_isiT (by rfl) T.isi (by decide +kernel) (pa_cons (pv 0) (pa_cons (pe_tup (pa_cons (pe_bltn (v := .ty "tuple") (u := .type "tuple") (by rfl) T.tuple_ (by decide +kernel) rfl) (pa_cons (pe_bltn (v := .ty "list") (u := .type "list") (by rfl) T.list_ (by decide +kernel) rfl) pa_nil))) pa_nil))))))) (pss_one (ps_ret pe_bl)) pss_nil) (pss_one (ps_ret (pe_and (pe_cmpR op_eq (pe_callB call_len_seq (by rfl) T.len_ PySem.boot_len (pa_cons (pv 0) pa_nil)) (pe_callB call_len_seq (by rfl) T.len_ PySem.boot_len (pa_cons (pv 1) pa_nil)) (nomark _)) (pe_one (pe_callB (cr_all rfl) (by rfl) T.all_ (by decide +kernel) (pa_cons (pe_lc (own := [("one", 2), ("two", 3)]) (g := gTup K 2 (gCons (gName 2) (gCons (gName 3) gNil))) (te := tCall (spIsN n) [] E0 (tCons (tVar 2) (tCons (tVar 3) tNil))) rfl scIs.nd (RZ.pi_zipA (by rfl) T.zip_ (pa_cons (pv 0) (pa_cons (pv 1) pa_nil))) (blkOk_by (N := nIs) (sc := defScope sIs) (by decide +kernel)) (fun _ _ _ _ _ => (pg_tup rfl (pgs_cons (pg_name (i := 2) scIs.nd rfl (Or.inl rfl)) (pgs_cons (pg_name (i := 3) scIs.nd rfl (Or.inl rfl)) pgs_nil)))) (fun _ _ _ _ _ => pts_nil) (fun _ _ _ _ _ => (pe_c cI hr (by omega) (by rfl) (pa_cons (pv 2) (pa_cons (pv 3) pa_nil))))) pa_nil))))))) pss_nil) (pss_one (ps_ret (pe_and (pe_cmpR op_eq (pe_callB call_isTh (by rfl) T.isi (by decide +kernel) (pa_cons (pv 0) (pa_cons (pe_bltn (v := .ty "bool") (u := .type "bool") (by rfl) T.bool_ (by decide +kernel) rfl) pa_nil))) (pe_callB call_isTh (by rfl) T.isi (by decide +kernel) (pa_cons (pv 1) (pa_cons (pe_bltn (v := .ty "bool") (u := .type "bool") (by rfl) T.bool_ (by decide +kernel) rfl) pa_nil))) (nomark _)) (pe_one (pe_cmpR op_eq (pv 0) (pv 1) (nomark _))))))), ?_⟩
    refine ⟨_, rfl, by show 2 ≤ sizeLine; decide, fun tp ntp => ?_⟩
    have s1 : Same H (upd H tp (.tup [.ty "tuple", .ty "list"])) := same_upd ntp
    have htp : (upd H tp (.tup [.ty "tuple", .ty "list"])) tp = some (.tup [.ty "tuple", .ty "list"]) := upd_same
    generalize hH1 : upd H tp (.tup [.ty "tuple", .ty "list"]) = H1 at *
    rcases alk with ⟨⟨t, at1⟩, rfl⟩ | ⟨a, b, xs, ys, rfl, rfl, hab, hp, hl⟩
    · obtain ⟨h1, h2, h3, h5⟩ := at1.th (H := H1)
      refine ⟨_, tp, _, .type t, _, _, rfl, htp, .cons (.ty _) (.cons (.ty _) .nil), h1.tyX, kitAny_tl t h3, _, rfl, ?_⟩
      rw [h2]
      refine iteF ?_
      refine ⟨_, rfl, _, "bool", t, rfl, h1, by decide, _, rfl, _, "bool", t, rfl, h1, by decide, rfl, _, rfl, ?_⟩
      rw [decide_eq_true rfl]
      refine iteT ⟨_, rfl, _, rfl, h5, ?_⟩
      rw [decide_eq_true rfl]
      exact q _ s1
    have hlen : xs.length = ys.length := Paired.len hp
    rcases hab with ⟨ha, hb⟩ | ⟨ha, hb⟩
    · refine ⟨.ref b, tp, _, .type "tuple", _, _, rfl, htp, .cons (.ty _) (.cons (.ty _) .nil), (ThT.tup (s1 _ _ hb)).tyX, kitAny_tl "tuple" (by decide), _, rfl, iteT ?_⟩
      refine ⟨_, rfl, _, "tuple", _, rfl, .tup (s1 _ _ ha), by decide, _, rfl, _, "tuple", _, rfl, .tup (s1 _ _ hb), by decide, rfl, _, rfl, iteF ?_⟩
      refine ⟨_, rfl, by show 2 ≤ sizeLine; decide, fun tq ntq => ?_⟩
      have s2 : Same H1 (upd H1 tq (.tup [.ty "tuple", .ty "list"])) := same_upd ntq
      have htq : (upd H1 tq (.tup [.ty "tuple", .ty "list"])) tq = some (.tup [.ty "tuple", .ty "list"]) := upd_same
      have s12 := s1.trans s2
      generalize hH2 : upd H1 tq (.tup [.ty "tuple", .ty "list"]) = H2 at *
      refine ⟨.ref a, tq, _, .type "tuple", _, _, rfl, htq, .cons (.ty _) (.cons (.ty _) .nil), (ThT.tup (s12 _ _ ha)).tyX, kitAny_tl "tuple" (by decide), _, rfl, iteF ?_⟩
      refine ⟨_, rfl, a, _, rfl, .inr (.of (s12 _ _ ha)), _, rfl, b, _, rfl, .inr (.of (s12 _ _ hb)), rfl, _, rfl, ?_⟩
      rw [hlen, decide_eq_true rfl]
      refine iteT ?_
      refine ⟨_, rfl, _, rfl, a, b, _, _, rfl, .inr ⟨.of (s12 _ _ ha), .of (s12 _ _ hb), fun D hD => ?_⟩⟩
      refine lcP (walk_zipT hlen) (fun i => V.bl true) (Nat.lt_of_le_of_lt hl (by decide)) hD (fun _ sm => ⟨seqT sm (.of (s12 _ _ ha)), seqT sm (.of (s12 _ _ hb))⟩) ?_ ?_
      · rintro i y H3 H4 Q' hi sm ⟨p, u1, u2, rfl, np, rfl, e1, e2⟩ hq
        have e1' : xs[i]? = some u1 := e1
        have e2' : ys[i]? = some u2 := e2
        obtain ⟨u3, e3, al⟩ := Paired.at' hp e1'
        rw [e2'] at e3
        cases e3
        have s14 := (s12.trans sm).trans (same_upd (o := HO.tup [u1, u2]) np)
        refine ⟨p, _, rfl, .of upd_same, rfl, _, _, rfl, _, _, rfl, rfl, rfl, _, rfl, _, rfl, _, _, rfl, EqN.same s14 al, fun H5 s5 => ?_⟩
        exact hq _ ((same_upd np).trans s5)
      · intro H3 sm hd
        refine ⟨D, (List.range xs.length).map fun i => true, rfl, .inl (.inl (by rw [hd, List.map_map]; rfl)), ?_⟩
        rw [all_yes]
        exact q _ (s12.trans sm)
    · refine ⟨.ref b, tp, _, .type "list", _, _, rfl, htp, .cons (.ty _) (.cons (.ty _) .nil), (ThT.lst (s1 _ _ hb)).tyX, kitAny_tl "list" (by decide), _, rfl, iteT ?_⟩
      refine ⟨_, rfl, _, "tuple", _, rfl, .lst (s1 _ _ ha), by decide, _, rfl, _, "tuple", _, rfl, .lst (s1 _ _ hb), by decide, rfl, _, rfl, iteF ?_⟩
      refine ⟨_, rfl, by show 2 ≤ sizeLine; decide, fun tq ntq => ?_⟩
      have s2 : Same H1 (upd H1 tq (.tup [.ty "tuple", .ty "list"])) := same_upd ntq
      have htq : (upd H1 tq (.tup [.ty "tuple", .ty "list"])) tq = some (.tup [.ty "tuple", .ty "list"]) := upd_same
      have s12 := s1.trans s2
      generalize hH2 : upd H1 tq (.tup [.ty "tuple", .ty "list"]) = H2 at *
      refine ⟨.ref a, tq, _, .type "list", _, _, rfl, htq, .cons (.ty _) (.cons (.ty _) .nil), (ThT.lst (s12 _ _ ha)).tyX, kitAny_tl "list" (by decide), _, rfl, iteF ?_⟩
      refine ⟨_, rfl, a, _, rfl, .inl (SqL.of (s12 _ _ ha)), _, rfl, b, _, rfl, .inl (SqL.of (s12 _ _ hb)), rfl, _, rfl, ?_⟩
      rw [hlen, decide_eq_true rfl]
      refine iteT ?_
      refine ⟨_, rfl, _, rfl, a, b, _, _, rfl, .inl ⟨SqL.of (s12 _ _ ha), SqL.of (s12 _ _ hb), fun D hD => ?_⟩⟩
      refine lcP (walk_zip (n := xs.length) (by rw [hlen, Nat.min_self])) (fun i => V.bl true) (Nat.lt_of_le_of_lt hl (by decide)) hD (fun _ sm => ⟨SqL.of (sm _ _ (s12 _ _ ha)), SqL.of (sm _ _ (s12 _ _ hb))⟩) ?_ ?_
      · rintro i y H3 H4 Q' hi sm ⟨p, u1, u2, rfl, np, rfl, e1, e2⟩ hq
        have e1' : xs[i]? = some u1 := e1
        have e2' : ys[i]? = some u2 := e2
        obtain ⟨u3, e3, al⟩ := Paired.at' hp e1'
        rw [e2'] at e3
        cases e3
        have s14 := (s12.trans sm).trans (same_upd (o := HO.tup [u1, u2]) np)
        refine ⟨p, _, rfl, .of upd_same, rfl, _, _, rfl, _, _, rfl, rfl, rfl, _, rfl, _, rfl, _, _, rfl, EqN.same s14 al, fun H5 s5 => ?_⟩
        exact hq _ ((same_upd np).trans s5)
      · intro H3 sm hd
        refine ⟨D, (List.range xs.length).map fun i => true, rfl, .inl (.inl (by rw [hd, List.map_map]; rfl)), ?_⟩
        rw [all_yes]
        exact q _ (s12.trans sm)
end
end L2.My
end
section
set_option Elab.async false
set_option linter.all false
set_option maxRecDepth 100000
set_option maxHeartbeats 4000000
namespace L2.My
open PySem PySem.Spec PyProof.Rows
abbrev sGf : Stmt := top 29
abbrev sFacs : Stmt := top 30
theorem nI_at {ns : List Nat} {i : Nat} {v : V} (h : (nI ns)[i]? = some v) : ∃ n, ns[i]? = some n ∧ v = .int (n : Nat) := by
  unfold nI at h
  rw [List.getElem?_map] at h
  cases e : ns[i]? with
  | none => rw [e] at h; cases h
  | some n => rw [e] at h; exact ⟨n, rfl, (Option.some.inj h).symm⟩
def gfs (gs : List (List Fc)) (ns : List Nat) : List Fc := ns.flatMap fun n => gs[n]?.getD []
def spGfX (kind : List V → HO) : Sp := fun vs H Q _ => ∃ (p lt ca ga : Addr) (gs : List (List Fc)) (ns : List Nat), vs = [.ref p, .ref lt] ∧ H p = some (.tup [.ref ca, .ref ga]) ∧ GrsAt H ga gs ∧ (∀ x ∈ gs, x.length ≤ 1000 ∧ ∀ f ∈ x, GF f) ∧ H lt = some (kind (nI ns)) ∧ (∀ n ∈ ns, n < gs.length) ∧ ns.length ≤ 60 ∧ ∀ H' l as fs, Same H H' → H' l = some (.lst (as.map .ref)) → Paired (FactAt H') as fs → (∀ f ∈ fs, GF f) → fs.length ≤ 60000 → fs = gfs gs ns → Q (.ref l) H'
abbrev spGf : Sp := spGfX HO.lst
def Gof (gs : List (List Fc)) (ns : List Nat) (f : Fc) : Prop := ∃ n ∈ ns, ∃ g, gs[n]? = some g ∧ f ∈ g
theorem gfs_mem {gs : List (List Fc)} {ns : List Nat} {f : Fc} : f ∈ gfs gs ns ↔ Gof gs ns f := by
  unfold gfs Gof
  rw [List.mem_flatMap]
  constructor
  · rintro ⟨n, hn, h⟩
    cases e : gs[n]? with
    | none => rw [e] at h; cases h
    | some g => rw [e] at h; exact ⟨n, hn, g, e, h⟩
  · rintro ⟨n, hn, g, e, h⟩
    exact ⟨n, hn, by rw [e]; exact h⟩
theorem rgV_nI (n : Nat) : rgV 0 (n : Int) = nI (List.range n) := by
  unfold rgV nI
  rw [Int.sub_zero, Int.toNat_natCast]
  exact List.map_congr_left fun i _ => by rw [Int.zero_add]
theorem u64 {k : Nat} {A : Around} (h : Room k A) : A.units + 64 < cLine := by have := h.un; omega
theorem few_dp {cs : List Cz} {gs : List (List Fc)} {Dp : List Fc} (hD : PF Dp cs gs) {f : Fc} (h : AllR cs gs f) : f ∈ Dp := by
  rcases h with ⟨j, g, _, hg, hf⟩ | ⟨j, c, _, hc, hf⟩
  · exact hD.gr g (List.mem_of_getElem? hg) f hf
  · have := hD.cl c (List.mem_of_getElem? hc)
    rcases hf with rfl | hf
    · exact this.2
    · exact this.1 f hf
def spFacs : Sp := fun vs H Q _ => ∃ (p ca ga : Addr) (cs : List Cz) (gs : List (List Fc)) (Dp : List Fc), vs = [.ref p] ∧ H p = some (.tup [.ref ca, .ref ga]) ∧ ClsAt H ca cs ∧ GrsAt H ga gs ∧ GR cs gs ∧ PF Dp cs gs ∧ ∀ H' l, Same H H' → AllF H' l cs gs → Q (.ref l) H'
section
variable {P : Program} {w : World} {K : PySem.W.Frag} {mg : Str → Option Value} {base : Heap} {C : Addr}
theorem scGf : FnScope ["parts", "lot", "found", "number"] ["parts", "lot"] (defScope sGf) := ⟨rfl, rfl, rfl, by decide +kernel, rfl, by decide +kernel, by decide +kernel⟩
theorem ok_gf {f : Addr} {fd : FuncData} {k : Nat} (F : Fun K "_law_ground_facts" "_law_ground_facts" sGf f fd) (T : Tx mg) : FnOk P w K mg base CX0 (k + 1) f fd ["parts", "lot"] spGf := by
  refine F.ok scGf (fun vs H Q E h => ?_) (fun cdv A outer s H vs Q E hr h => ?_)
  · obtain ⟨p, lt, ca, ga, gs, ns, rfl, _⟩ := h
    rfl
  · obtain ⟨p, lt, ca, ga, gs, ns, rfl, hp, ⟨gas, hga, hgp⟩, hG, hlt, hnb, hnl, q⟩ := h
    refine ⟨_, (pss_cons (ps_set (i := 2) scGf.nd rfl (Or.inl rfl) (pe_lst pa_nil)) (pss_cons (ps_for PassesOwn.never rfl (pi_list (pv 1)) (pg_name (i := 3) scGf.nd rfl (Or.inl rfl)) (pss_one (ps_expr (pe_bm PySem.F.plainAttrs_list PySem.F.slot_list_extend PySem.F.type_list_extend mt_extend (pv 2) (pa_cons (pe_callTy call_list_of (by rfl) T.list_ (by decide +kernel) (pa_cons (pe_ix ix_tup (pe_ix ix_tup (pv 0) pe_int (fun _ _ => rfl)) (pv 3) (fun _ _ => rfl)) pa_nil)) pa_nil))))) (pss_one (ps_ret (pv 2))))), ?_⟩
    refine ⟨by decide, fun l nl => ?_⟩
    have s1 := same_upd (o := HO.lst []) nl
    refine ⟨_, rfl, lt, rfl, ⟨_, SqL.of (s1 _ _ hlt)⟩, ?_⟩
    refine for_it (walk_list (xs := nI ns)) (fun i σ G => ∃ y3, σ = [some (.ref p), some (.ref lt), some (.ref l), y3] ∧ Same H G ∧ ∃ as fs, G l = some (.lst (as.map .ref)) ∧ Paired (FactAt G) as fs ∧ (∀ f ∈ fs, GF f) ∧ fs.length ≤ 1000 * i ∧ fs = gfs gs (ns.take i)) ⟨_, rfl, s1, [], [], upd_same, .nil, by simp, Nat.zero_le _, by simp [gfs]⟩ (fun i σ G _ h => ?_) ?_ ?_
    · obtain ⟨_, rfl, h, _⟩ := h
      exact SqL.of (h _ _ hlt)
    · rintro i v σ G G' hi ⟨y3, rfl, sm, as, fs, h1, h2, h3, h4, h5⟩ ⟨rfl, hv⟩
      obtain ⟨n, hn, rfl⟩ := nI_at hv
      have hng := hnb n (List.mem_of_getElem? hn)
      obtain ⟨x, hx⟩ : ∃ x, gs[n]? = some x := ⟨_, List.getElem?_eq_getElem hng⟩
      obtain ⟨pg, hpg, bs, hb1, hb2⟩ := Paired.at hgp hx
      have hgx := hG x (List.mem_of_getElem? hx)
      have lb := Paired.len hb2
      have la := Paired.len h2
      have li : (nI ns).length = ns.length := by unfold nI; simp
      refine ⟨_, rfl, .inl ⟨rfl, _, SqL.of h1⟩, _, rfl, p, _, _, .ref ga, rfl, rfl, .of (sm _ _ hp), atI_nat (j := 1) rfl, _, rfl, ga, _, _, .ref pg, rfl, rfl, .of (sm _ _ hga), atI_nat (j := n) (by rw [List.getElem?_map, hpg]; rfl), pg, _, rfl, .inr (.of (sm _ _ hb1)), fun d nd => ?_⟩
      have s2 := same_upd (o := HO.lst (bs.map V.ref)) nd
      refine ⟨l, d, _, _, rfl, rfl, s2 _ _ h1, upd_same, ?_, ?_⟩
      · rw [List.length_map, List.length_map]
        exact Nat.le_trans (show as.length + bs.length ≤ 62000 by omega) (by decide)
      · have tk : TK G' (upd (upd G' d (.lst (bs.map V.ref))) l (.lst (as.map V.ref ++ bs.map V.ref))) := TK.trans (.same s2) (TK.upd (s2 _ _ h1) (fun xs e => nomatch e))
        refine ⟨_, rfl, same_put (sm.trans s2) nl, as ++ bs, fs ++ x, by rw [upd_same, List.map_append], ?_, fun f hf => ?_, by rw [List.length_append]; omega, by rw [take_snoc hn, h5]; simp [gfs, hx]⟩
        · exact paired_app (Paired.mapP h2 fun _ _ z => z.tk tk) (Paired.mapP hb2 fun _ _ z => z.tk (TK.trans (.same sm) tk))
        · rcases List.mem_append.mp hf with h | h
          · exact h3 f h
          · exact hgx.2 f h
    · rintro σ G ⟨y3, rfl, sm, as, fs, h1, h2, h3, h4, h5⟩
      have li : (nI ns).length = ns.length := by unfold nI; simp
      exact ⟨_, rfl, q G l as fs sm h1 h2 h3 (by omega) (by rw [h5, li, List.take_length])⟩
theorem scFa : FnScope ["parts", "found", "body", "head"] ["parts"] (defScope sFacs) := ⟨rfl, rfl, rfl, by decide +kernel, rfl, by decide +kernel, by decide +kernel⟩
theorem ok_facs {f : Addr} {fd : FuncData} {k : Nat} (F : Fun K "_law_facts" "_law_facts" sFacs f fd) (T : Tx mg) (cG : Cal P w K mg base (k + 1) "_law_ground_facts" ["parts", "lot"] spGf) : FnOk P w K mg base CX0 (k + 2) f fd ["parts"] spFacs := by
  refine F.ok scFa (fun vs H Q E h => ?_) (fun cdv A outer s H vs Q E hr h => ?_)
  · obtain ⟨p, ca, ga, cs, gs, Dp, rfl, _⟩ := h
    rfl
  · obtain ⟨p, ca, ga, cs, gs, Dp, rfl, hp, ⟨cas, hca, hcp⟩, ⟨gas, hga, hgp⟩, hG, hD, q⟩ := h
    refine ⟨_, (pss_cons (ps_set (i := 1) scFa.nd rfl (Or.inl rfl) (pe_c cG hr (by omega) (by rfl) (pa_cons (pv 0) (pa_cons (pe_listRg rfl (by rfl) T.list_ (prg_1 (by rfl) T.range_ (pe_callB call_len_seq (by rfl) T.len_ PySem.boot_len (pa_cons (pe_ix ix_tup (pv 0) pe_int (fun _ _ => rfl)) pa_nil)))) pa_nil)))) (pss_cons (ps_for PassesOwn.never rfl (pi_tup (pe_ix ix_tup (pv 0) pe_int (fun _ _ => rfl))) (pg_tup rfl (pgs_cons (pg_name (i := 2) scFa.nd rfl (Or.inl rfl)) (pgs_cons (pg_name (i := 3) scFa.nd rfl (Or.inl rfl)) pgs_nil))) (pss_one (ps_set (i := 1) scFa.nd rfl (Or.inl rfl) (pe_op op_cat (pe_op op_cat (pv 1) (pe_callTy call_list_of (by rfl) T.list_ (by decide +kernel) (pa_cons (pv 2) pa_nil))) (pe_lst (pa_cons (pv 3) pa_nil)))))) (pss_one (ps_ret (pe_callB (cr_sortSF rfl) (by rfl) T.sorted_ (by decide +kernel) (pa_cons (pe_callTy (cr_setF rfl (u64 hr)) (by rfl) T.set_ (by decide +kernel) (pa_cons (pv 1) pa_nil)) pa_nil)))))), ?_⟩
    have lg := Paired.len hgp
    have lc := Paired.len hcp
    have hng := hG.ng
    refine ⟨_, rfl, _, rfl, p, _, _, .ref ga, rfl, rfl, .of hp, atI_nat (j := 1) rfl, ga, _, rfl, .inr (.of hga), ?_⟩
    rw [List.length_map, lg]
    refine ⟨_, rfl, RgOk.of_le (by decide) (by omega) (by decide) (by omega), fun l nl => ?_⟩
    rw [rgV_nI]
    have s2 := same_upd (o := HO.lst (nI (List.range gs.length))) nl
    refine ⟨p, l, ca, ga, gs, List.range gs.length, rfl, s2 _ _ hp, ⟨gas, s2 _ _ hga, Paired.mapP hgp fun _ _ z => z.tk (.same s2)⟩, fun x hx => ⟨hG.nf x hx, hG.gr x hx⟩, upd_same, fun n hn => List.mem_range.mp hn, by rw [List.length_range]; exact hng, fun H3 l2 as fs s3 hl2 hp2 hg2 hlen hfs => ?_⟩
    have sm3 := s2.trans s3
    have in0 : ∀ f, f ∈ fs ↔ InGs gs gs.length f ∨ InCs cs 0 f := fun f => by
      rw [hfs, gfs_mem]
      constructor
      · rintro ⟨n, _, g, hg, hx⟩
        exact .inl ⟨n, g, (List.getElem?_eq_some_iff.mp hg).1, hg, hx⟩
      · rintro (⟨n, g, hn, hg, hx⟩ | ⟨n, _, hn, _⟩)
        · exact ⟨n, List.mem_range.mpr hn, g, hg, hx⟩
        · exact absurd hn (Nat.not_lt_zero _)
    refine ⟨_, rfl, p, _, _, .ref ca, rfl, rfl, .of (sm3 _ _ hp), atI_nat (j := 0) rfl, ca, rfl, ⟨_, .of (sm3 _ _ hca)⟩, ?_⟩
    refine for_it (walk_tup (xs := cas.map V.ref)) (fun i σ G => ∃ (y2 y3 : Option V) (l : Addr) (as : List Addr) (fs : List Fc), σ = [some (.ref p), some (.ref l), y2, y3] ∧ Same H G ∧ G l = some (.lst (as.map .ref)) ∧ Paired (FactAt G) as fs ∧ (∀ f, f ∈ fs ↔ InGs gs gs.length f ∨ InCs cs i f) ∧ fs.length ≤ 60000 + 10 * i) ⟨_, _, l2, as, fs, rfl, sm3, hl2, hp2, in0, by omega⟩ (fun i σ G _ h => ?_) ?_ ?_
    · obtain ⟨_, _, _, _, _, rfl, h, _⟩ := h
      exact .of (h _ _ hca)
    · rintro i v σ G G' hi ⟨y2, y3, l, as, fs, rfl, sm, h1, h2, h3, h4⟩ ⟨rfl, hv⟩
      obtain ⟨pc, hpc, rfl⟩ := ref_at hv
      obtain ⟨c0, hc0, pb, ph, hpc2, ⟨bs, hbs, hbp⟩, hph⟩ := Paired.at' hcp hpc
      have mc := List.mem_of_getElem? hc0
      have gc := hG.cl c0 mc
      have dc := hD.cl c0 mc
      have lb := Paired.len hbp
      have la := Paired.len h2
      have g4 := gc.1
      rw [List.length_map, lc] at hi
      have hnc := hD.nc
      refine ⟨pc, _, rfl, .of (sm _ _ hpc2), rfl, _, _, rfl, _, _, rfl, rfl, ?_⟩
      refine ⟨_, rfl, _, rfl, pb, _, rfl, .inr (.of (sm _ _ hbs)), fun d nd => ?_⟩
      have t1 := same_upd (o := HO.lst (bs.map V.ref)) nd
      refine ⟨l, d, _, _, rfl, rfl, t1 _ _ h1, upd_same, ?_, fun e ne => ?_⟩
      · rw [List.length_map, List.length_map]
        exact Nat.le_trans (show as.length + bs.length ≤ 100000 by omega) (by decide)
      have t2 := same_upd (o := HO.lst (as.map V.ref ++ bs.map V.ref)) ne
      refine ⟨_, rfl, by show 1 ≤ sizeLine; decide, fun e2 ne2 => ?_⟩
      have t3 := same_upd (o := HO.lst [.ref ph]) ne2
      refine ⟨e, e2, _, _, rfl, rfl, t3 _ _ upd_same, upd_same, ?_, fun e3 ne3 => ?_⟩
      · simp only [List.length_append, List.length_map, List.length_cons, List.length_nil]
        exact Nat.le_trans (show as.length + bs.length + 1 ≤ 100001 by omega) (by decide)
      have t4 := same_upd (o := HO.lst (as.map V.ref ++ bs.map V.ref ++ [.ref ph])) ne3
      have st := t1.trans (t2.trans (t3.trans t4))
      refine ⟨_, _, e3, as ++ bs ++ [ph], fs ++ c0.1 ++ [c0.2], rfl, sm.trans st, by rw [upd_same]; simp, ?_, fun f => ?_, ?_⟩
      · exact Paired.snoc (paired_app (Paired.mapP h2 fun _ _ z => st _ _ z) (Paired.mapP hbp fun _ _ z => st _ _ (sm _ _ z))) (st _ _ (sm _ _ hph))
      · rw [inCs_succ hc0, List.mem_append, List.mem_append, List.mem_singleton, h3 f]
        constructor
        · rintro (((z | z) | z) | z)
          · exact .inl z
          · exact .inr (.inl z)
          · exact .inr (.inr (.inr z))
          · exact .inr (.inr (.inl z))
        · rintro (z | z | z | z)
          · exact .inl (.inl (.inl z))
          · exact .inl (.inl (.inr z))
          · exact .inr z
          · exact .inl (.inr z)
      · simp only [List.length_append, List.length_cons, List.length_nil]; omega
    · rintro σ G ⟨y2, y3, l, as, fs, rfl, sm, h1, h2, h3, h4⟩
      have hdl := hD.dl
      rw [List.length_map, lc] at h3 h4
      refine ⟨_, rfl, l, as, fs, Dp, rfl, SqL.of h1, h2, fun f hf => few_dp hD ((h3 f).mp hf), by omega, fun a L na hL1 hL2 nd => ?_⟩
      have s5 := same_upd (o := SetF P w a L) na
      refine ⟨a, L, rfl, upd_same, fun p hp => ⟨s5 _ _ (hL1 p hp).1, (allR_gf hG.q ((h3 _).mp (hL1 p hp).2)).shp⟩, fun bs' fs' p' hp' hperm hup hn => ?_⟩
      have s6 := same_upd (o := HO.lst (bs'.map V.ref)) hn
      refine q _ p' (sm.trans (s5.trans s6)) ⟨bs', fs', upd_same, Paired.mapP hp' fun _ _ z => s6 _ _ z, hup, hperm.nodup_iff.mpr nd, fun f => ?_, ?_⟩
      · rw [hperm.mem_iff]
        constructor
        · intro hf
          obtain ⟨p, hp, rfl⟩ := List.mem_map.mp hf
          exact (h3 _).mp (hL1 p hp).2
        · intro hf
          exact hL2 f ((h3 f).mpr hf)
      · have z := few_of (L.map (·.2)) Dp nd fun f hf => by
          obtain ⟨p, hp, rfl⟩ := List.mem_map.mp hf
          exact few_dp hD ((h3 _).mp (hL1 p hp).2)
        rw [hperm.length_eq]
        omega
end
end L2.My
end
section
set_option Elab.async false
set_option linter.all false
set_option maxRecDepth 100000
set_option maxHeartbeats 4000000
/-! t[::-1] of a tuple. -/
namespace L2.My
open PySem PySem.Spec PyProof.Rows
theorem fm_congr {α β : Type} {f g : α → Option β} : ∀ {l : List α}, (∀ k ∈ l, f k = g k) → l.filterMap f = l.filterMap g
  | [], _ => rfl
  | a :: r, h => by
    have ih := fm_congr (l := r) fun k hk => h k (List.mem_cons_of_mem _ hk)
    rw [List.filterMap_cons, List.filterMap_cons, h a List.mem_cons_self, ih]
theorem rev_pick (items : Array Value) : (List.filterMap (fun (k : Nat) => items[(((items.size : Int) - 1) + (k : Int) * (-1)).toNat]?) (List.range items.size)) = items.toList.reverse := by
  have h1 : List.filterMap (fun (k : Nat) => items[(((items.size : Int) - 1) + (k : Int) * (-1)).toNat]?) (List.range items.size) = List.filterMap (fun (k : Nat) => items[k]?) ((List.range items.size).map fun k => items.size - 1 - k) := by
    rw [List.filterMap_map]
    refine fm_congr fun k hk => ?_
    have := List.mem_range.mp hk
    show items[_]? = items[items.size - 1 - k]?
    congr 1
    omega
  rw [h1, PySem.W.krv_range, List.filterMap_reverse, PySem.W.krv_all]
section
variable {prog : Program} {w : World} {A : Around} {E : Value → Shared → Prop} {s : Shared}
theorem applied_rev {sl : Addr} {vl vu vs : Value} {n : Nat} {Q : Int × Int × Nat → Shared → Prop} (hs : s.heap.IsSliceOf sl vl vu vs) (pl : IsPart vl none) (pu : IsPart vu none) (ps : IsPart vs (some (-1))) (h : Q ((n : Int) - 1, -1, n) s) :
    wpAny (model prog w) A (Builtin.Slice.sliceApplied (.ref sl) (pure (n : Int))) Q E s := by
  obtain ⟨os, hos, hcs, hds⟩ := id hs
  refine wpAny_bind (wpAny_bind (wpAny_field hos hds rfl (wpAny_bind (wpAny_field hos hds rfl (wpAny_bind (wpAny_field hos hds rfl (wpAny_pure ?_)))))))
  refine wpAny_bind (HT.slicePart_ ps ?_)
  show wpAny _ _ (if ((-1 : Int) == 0) = true then _ else _) _ _ _
  rw [if_neg (by decide)]
  refine wpAny_bind (HT.slicePart_ pl (wpAny_bind (HT.slicePart_ pu (wpAny_bind (wpAny_pure ?_)))))
  have e1 : Builtin.Slice.sliceAdjust none none (-1) (n : Int) = ((n : Int) - 1, -1) := rfl
  have e2 : Builtin.Slice.slicePlaces ((n : Int) - 1) (-1) (-1) = n := by
    unfold Builtin.Slice.slicePlaces
    rw [if_neg (by decide)]
    by_cases hn : n = 0
    · subst hn
      rw [if_neg (by decide)]
      rfl
    · rw [if_pos (by omega)]
      rw [show (- (-1 : Int)) = 1 by decide, Int.ediv_one]
      omega
  show wpAny _ _ (match Builtin.Slice.sliceAdjust none none (-1) (n : Int) with | (lo, hi) => pure (lo, -1, Builtin.Slice.slicePlaces lo hi (-1))) _ _ _
  rw [e1]
  show wpAny _ _ (pure (((n : Int) - 1), -1, Builtin.Slice.slicePlaces ((n : Int) - 1) (-1) (-1))) _ _ _
  rw [e2]
  exact wpAny_pure h
theorem getItem_tuple_rev {t sl : Addr} {items : Array Value} {vl vu vs : Value} {Q : Value → Shared → Prop} (ht : IsTup s.heap t items) (hs : s.heap.IsSliceOf sl vl vu vs) (pl : IsPart vl none) (pu : IsPart vu none) (ps : IsPart vs (some (-1)))
    (h : Q (.ref s.heap.objs.size) { s with heap := s.heap.push { cls := .type "tuple", data := .seq items.toList.reverse.toArray } }) (hsz : items.size ≤ sizeLine) : wpAny (model prog w) A (getItem (.ref t) (.ref sl)) Q E s := by
  obtain ⟨os, hos, hcs, hds⟩ := id hs
  have hTs : s.TypeIs (.ref sl) "slice" := ⟨os, hos, hcs⟩
  refine wpAny_holding (wpAny_bind (wpAny_sequenceKey ht.typeIs (by decide) (wpAny_bind (wpAny_callSpecial?_slot ht.typeIs slot_tuple_getitem (wpAny_call_entry slot_tuple_getitem ht.typeIs entry_tuple_getitem ?_ (args_tuple_getitem (.ref t) (.ref sl)))))))
  show wpAny _ _ (Builtin.Tuple.tupleItemsOf (.ref t) >>= _) _ _ _
  refine wpAny_bind (tupleItemsOf_ ht (wpAny_bind (wpAny_typeOf hTs ?_)))
  rw [if_pos (by decide)]
  refine wpAny_bind (applied_rev hs pl pu ps ?_)
  show wpAny _ _ (if ((items.size : Int) - 1 == 0 && (-1 : Int) == 1 && items.size == items.size) = true then _ else _) _ _ _
  rw [if_neg (by simp)]
  show wpAny _ _ (Builtin.Tuple.tupleExact _ >>= _) _ _ _
  rw [rev_pick]
  refine wpAny_bind (wpAny_newObj_type (wpAny_pure ⟨_, rfl, wpAny_pure h⟩) ?_)
  show items.toList.reverse.toArray.size ≤ sizeLine
  simpa using hsz
end
def tRevT (K : PySem.W.Frag) (te : TE) : TE := fun σ H Q => te σ H fun x H1 => ∃ a xs, x = .ref a ∧ SqT K H1 a xs ∧ ∀ p, H1 p = none → Q (.ref p) (upd H1 p (.tup xs.reverse))
theorem pe_revT {X : Cx} {e : Expr} {te : TE} {k : Nat} {p1 p2 p3 pos : Pos} (he : PE X e te) : PE X (.Subscript e (.Slice none none (some (.UnaryOp .USub (.Constant (.int 1) k p1) p2)) p3) pos) (tRevT X.K te) := by
  refine ⟨fun pins s σ H Q I h => ?_⟩
  refine Subscript_ (thn (he.run pins s σ H _ I h) fun v s1 hv => ?_)
  obtain ⟨x, H1, I1, r1, a, xs, ex, hx, q⟩ := hv
  subst ex
  cases r1
  have hst : PO X (some (.UnaryOp .USub (.Constant (.int 1) k p1) p2)) _ := po_some (pe_un un_neg pe_int)
  refine wpAny_Slice (thn (po_none.run pins s1 σ H1 (fun o H2 => o = none ∧ H2 = H1) I1 ⟨rfl, rfl⟩) fun vl s2 h2 => ?_)
  obtain ⟨l, H2, I2, pl, rfl, rfl⟩ := h2
  refine thn (po_none.run pins s2 σ H2 (fun o H3 => o = none ∧ H3 = H2) I2 ⟨rfl, rfl⟩) fun vu s3 h3 => ?_
  obtain ⟨u, H3, I3, pu, rfl, rfl⟩ := h3
  refine thn (hst.run pins s3 σ H3 (fun o H4 => o = some (-1) ∧ H4 = H3) I3 ⟨_, rfl, _, rfl, rfl, rfl⟩) fun vs s4 h4 => ?_
  obtain ⟨o, H4, I4, ps, rfl, rfl⟩ := h4
  have I5 := I4.kept (t' := s4.toks) (h' := s4.heap.push { cls := .type "slice", data := .fields #[vl, vu, vs] }) fun b ob q => Heap.get?_push_of_some _ q
  obtain ⟨its, r, ht, hz⟩ := I5.tuple hx
  have hl := r.length
  refine tail_any ht.typeIs slot_tuple_getitem.lookup (getItem_tuple_rev ht (Heap.IsSliceOf.new s4.heap vl vu vs) pl pu ps ?_ (by rw [List.size_toArray]; omega)) rfl
  refine ⟨.ref (s4.heap.push { cls := .type "slice", data := .fields #[vl, vu, vs] }).objs.size, _, I5.laid (t' := s4.toks) (o := .tup xs.reverse) (fun b ob q => Heap.get?_push_of_some _ q) (Nat.le_refl _) ⟨by rw [List.length_reverse]; exact hz, its.reverse, Vals.reverse r, IsTup.new ..⟩, rfl, q _ (I5.hok.fresh (Nat.le_refl _))⟩
end L2.My
end
section
set_option Elab.async false
set_option linter.all false
set_option maxRecDepth 100000
set_option maxHeartbeats 4000000
/-! == and != of an instance whose class has its own ==. -/
namespace L2.My
open PySem PySem.Spec PyProof.Rows
section
variable {M : Model} {prog : Program} {w : World} {A : Around} {E : Value → Shared → Prop} {s : Shared} {K : PySem.W.Frag} {x C f L : Addr} {ox : Obj} {od : Option Obj} {b tb : Value} {h₀ : Heap} {m : Str → Option Value}
theorem ne_entry {Q : Fin → Shared → Prop} (hu : A.units < cLine) (X : K.In s.heap) (I : PySem.W.InstAt s.heap x ox C od) (hs : PySem.W.findIn K (.ref C) "__eq__" = some (some (.ref f))) (hf : PySem.W.isFn K (.ref f) = true)
    (h : wpAny (model prog w) A (call (.ref f) [.ref x, b]) (fun v s' => ∃ c, v = .bool c ∧ Q (.done (.ret (.bool (!c)))) s') E s) : wpAny (model prog w) A (Builtin.«object.__ne__» ⟨[.ref x, b], []⟩) Q E s := by
  unfold Builtin.«object.__ne__»
  repeat (first
    | with_reducible refine wpAny_cRoomFor hu ?_
    | (refine wpAny_bind (m := callSpecialIfBound? (.ref x) (Str.ofString "__eq__") [b])
        (PySem.W.ifBound_K X I hs hf (wpAny_mono h (fun r s' hr => by
          obtain ⟨c, rfl, hq⟩ := hr
          repeat (first | exact hq | exact wpAny_pure hq | exact wpAny_truthy_bool hq | (refine wpAny_bind (m := truthy (.bool _)) (wpAny_truthy_bool ?_)) | wp_step)) fun _ _ e => e)))
    | wp_step)
theorem ifBound_ne {args : List Value} {Q : Option Value → Shared → Prop} (X : K.In s.heap) (I : PySem.W.InstAt s.heap x ox C od) (hs : PySem.W.findIn K (.ref C) "__ne__" = some (some (.builtin "object.__ne__")))
    (h : wpAny M A (call (.builtin "object.__ne__") (.ref x :: args)) (fun v => Q (some v)) E s) : wpAny M A (callSpecialIfBound? (.ref x) "__ne__" args) Q E s := by
  simp only [callSpecialIfBound?, bindSpecialIfBound?]
  refine wpAny_holding (wpAny_bind (wpAny_bind (wpAny_bind (I.type.here ((PySem.W.looks_findIn X hs).here ?_)))))
  refine wpAny_bind (wpAny_askSetting (wpAny_ite ?_))
  have fin : wpAny M A (call (.builtin "object.__ne__") ([.ref x] ++ args) >>= fun v => pure (some v)) Q E s := wpAny_bind (wpAny_mono h (fun v s' h' => wpAny_pure h') fun _ _ h' => h')
  split
  · exact wpAny_bind (wpAny_of_eq (F.cmp_object.ne.bind _) (wpAny_pure (by exact fin)))
  · exact wpAny_tryCatch (wpAny_bind (wpAny_of_eq (F.cmp_object.ne.bind _) (wpAny_pure (by exact fin))))
theorem ne_K {Q : Value → Shared → Prop} (hu : A.units + 1 < cLine) (X : K.In s.heap) (I : PySem.W.InstAt s.heap x ox C od) (hb : PySem.W.Looks (model prog w) s.heap (typeOf b) tb) (hn : PySem.W.notFirst K C tb = true)
    (hs : PySem.W.findIn K (.ref C) "__eq__" = some (some (.ref f))) (hf : PySem.W.isFn K (.ref f) = true) (hne : PySem.W.findIn K (.ref C) "__ne__" = some (some (.builtin "object.__ne__"))) (hm : PySem.W.mroIn K C (.type "object") = some true)
    (h : wpAny (model prog w) A.in1 (call (.ref f) [.ref x, b]) (fun v s' => ∃ c, v = .bool c ∧ Q (.bool (!c)) s') E s) : wpAny (model prog w) A (richCompare .NotEq (.ref x) b) Q E s := by
  have one : wpAny (model prog w) A (tryCompare (.ref x) "__ne__" b) (fun r s' => ∃ v, r = some v ∧ Q v s') E s := by
    unfold tryCompare
    refine wpAny_bind (ifBound_ne X I hne (wpAny_call (codeAny_call_builtin F.cmp_object.ne.plain F.cmpEntry_ne (PySem.W.check_slot F.cmpKind_ne F.cmpSplit_ne (I.type.andThen (PySem.W.looks_mroIn X hm)) (F.cmpArgs_ne _ _)
      (ne_entry (A := A.in1) hu X I hs hf (wpAny_mono h (fun v s' hv => ?_) fun _ _ e => e))))))
    obtain ⟨c, rfl, hq⟩ := hv
    exact ⟨c, rfl, wpAny_pure ⟨_, rfl, hq⟩⟩
  unfold richCompare
  simp only [oneThing_ref]
  refine wpAny_holding (wpAny_bind (wpAny_cRoomFor (by omega) ?_))
  refine wpAny_bind (I.type.here (wpAny_bind (hb.here ?_)))
  split
  · rename_i q
    have e : PySem.W.subIn K tb (.ref C) = some false := by
      rcases Bool.or_eq_true_iff.mp hn with e | e
      · rw [beq_iff_eq.mp e] at q; simp at q
      · exact beq_iff_eq.mp e
    refine wpAny_bind ((PySem.W.looks_subIn X e).here ?_)
    simp only [Bool.false_eq_true, if_false]
    refine wpAny_bind (wpAny_mono one (fun r s' z => ?_) fun _ _ e => e)
    obtain ⟨v, rfl, hq⟩ := z
    exact wpAny_pure hq
  · refine wpAny_bind (wpAny_pure ?_)
    simp only [Bool.false_eq_true, if_false]
    refine wpAny_bind (wpAny_mono one (fun r s' z => ?_) fun _ _ e => e)
    obtain ⟨v, rfl, hq⟩ := z
    exact wpAny_pure hq
end
/-- the type of a value, as the right side of a comparison -/
def rOwnEq (K : PySem.W.Frag) (C : Addr) (sp : Sp) (neg : Bool) : R2 := fun x y H Q => ∃ a dx fs tb, x = .ref a ∧ H a = some (.ins C dx fs) ∧ TyX K H y tb ∧ PySem.W.notFirst K C tb = true ∧ sp [x, y] H (fun v H' => ∃ c, v = .bl c ∧ Q (.bl (if neg then !c else c)) H') E0
section
variable {X : Cx} {n : Nat} {CX : CXT} {C f : Addr} {fd : FuncData} {ps : List Str} {sp : Sp}
theorem looks_of {pins : List (Addr × Obj)} {σ : St} {H : Hp} {s : Shared} {y : V} {u tb : Value} (I : Inv X pins σ H s) (ry : RelV y u) (t : TyX X.K H y tb) : PySem.W.Looks (model X.prog X.w) s.heap (typeOf u) tb := by
  obtain ⟨P, Z, p, hx⟩ := kit_of I ry t
  exact Z.ty _ _ I.kIn p
theorem run_own {A : Around} {pins : List (Addr × Obj)} {σ : St} {H : Hp} {s : Shared} {x y : V} {u v : Value} {R0 : VK} {R : Value → Shared → Prop} (F : FnOk X.prog X.w X.K X.mg X.base CX n f fd ps sp) (hb : Binds X.K fd ps []) (hx : Passes CX X E0) (hr : Room n A) (fr : A.frames = X.A.frames)
    (I : Inv X pins σ H s) (rx : RelV x u) (ry : RelV y v) (hsp : sp [x, y] H R0 E0) (hR : ∀ z w H' s', Inv X pins σ H' s' → RelV z w → R0 z H' → R w s') :
    wpAny (model X.prog X.w) A (call (.ref f) [u, v]) R X.xe s := by
  have e0 : Env0 X.prog X.w X.K X.mg X.base A X.stack s H := by
    have e := I.env0
    exact ⟨by rw [fr]; exact e.frames, e.mod, e.bs, e.bsz, e.funs, e.frf, e.hok, e.bare⟩
  have hl := F.len _ _ _ _ hsp
  have r2 : Vals [x, y] [u, v] := .cons rx (.cons ry .nil)
  refine wpAny_call (codeAny_mono (F.run A X.stack s H ⟨[u, v], []⟩ [u, v] [x, y] _ E0 hr e0 (by
    have := hb s [u, v] I.kIn (by simpa using hl)
    simpa using this) r2 hsp) fun r s' hq => ?_)
  cases r with
  | error e => exact hx pins σ H s e s' I hq
  | ok fl =>
    cases fl with
    | ret w =>
      obtain ⟨z, H', I', rz, q⟩ := I.after hq
      exact hR z w H' s' I' rz q
    | next => exact False.elim hq
    | brk => exact False.elim hq
    | cont => exact False.elim hq
theorem op_eqO (F : FnOk X.prog X.w X.K X.mg X.base CX n f fd ps sp) (hr : Room n X.A) (hs : PySem.W.findIn X.K (.ref C) "__eq__" = some (some (.ref f))) (hf : PySem.W.isFn X.K (.ref f) = true) (hb : Binds X.K fd ps []) (hx : Passes CX X E0) :
    OpR X (compareOp .Eq) (rOwnEq X.K C sp false) := by
  intro pins s σ H x y u v Q I rx ry h
  obtain ⟨a, dx, fs, tb, rfl, ha, ty, hn, hsp⟩ := h
  cases rx
  obtain ⟨mA, J, _⟩ := ins_get I.hok ha
  obtain ⟨od, J, _⟩ := J.look
  obtain ⟨m, hF⟩ := I.fr
  refine PySem.W.cmp_K (op := .Eq) (tb := tb) hr.units0 hF I.ok.mod.kin J (looks_of I ry ty) hn hs hf ?_
  refine run_own (x := .ref a) F hb hx hr rfl I rfl ry hsp fun z w H' s' I' rz q => ?_
  obtain ⟨c, rfl, q⟩ := q
  cases rz
  exact ⟨.bl c, H', I', rfl, q⟩
theorem op_neO (F : FnOk X.prog X.w X.K X.mg X.base CX n f fd ps sp) (hr : Room (n + 1) X.A) (hs : PySem.W.findIn X.K (.ref C) "__eq__" = some (some (.ref f))) (hf : PySem.W.isFn X.K (.ref f) = true) (hb : Binds X.K fd ps []) (hx : Passes CX X E0)
    (hne : PySem.W.findIn X.K (.ref C) "__ne__" = some (some (.builtin "object.__ne__"))) (hm : PySem.W.mroIn X.K C (.type "object") = some true) : OpR X (compareOp .NotEq) (rOwnEq X.K C sp true) := by
  intro pins s σ H x y u v Q I rx ry h
  obtain ⟨a, dx, fs, tb, rfl, ha, ty, hn, hsp⟩ := h
  cases rx
  obtain ⟨mA, J, _⟩ := ins_get I.hok ha
  obtain ⟨od, J, _⟩ := J.look
  refine ne_K (by have := hr.un; omega) I.kIn J (looks_of I ry ty) hn hs hf hne hm ?_
  refine run_own (x := .ref a) F hb hx hr.in1 rfl I rfl ry hsp fun z w H' s' I' rz q => ?_
  obtain ⟨c, rfl, q⟩ := q
  cases rz
  exact ⟨c, rfl, .bl (!c), H', I', rfl, q⟩
end
end L2.My
end
section
set_option Elab.async false
set_option linter.all false
set_option maxRecDepth 100000
set_option maxHeartbeats 4000000
namespace L2.My
open PySem PySem.Spec PyProof.Rows
theorem kv_atm (k : Key) : ∃ t, Atm (kV k) t := by
  cases k with
  | inl i => exact ⟨_, .int i⟩
  | inr z => exact ⟨_, .str z⟩
theorem EqN.up {H : Hp} : ∀ {n : Nat} {v v' : V}, EqN H n v v' → EqN H (n + 1) v v'
  | 0, v, v', h => .inl h
  | n + 1, v, v', h => by
    rcases h with h | ⟨a, b, xs, ys, e1, e2, h1, h2, h3⟩
    · exact .inl h
    · exact .inr ⟨a, b, xs, ys, e1, e2, h1, Paired.mapP h2 fun _ _ z => EqN.up z, h3⟩
theorem eqn_fact {H : Hp} {a b : Addr} {f : Fc} (h1 : FactAt H a f) (h2 : FactAt H b f) (g : GF f) : EqN H 1 (.ref a) (.ref b) := by
  refine .inr ⟨a, b, _, _, rfl, rfl, .inl ⟨h1, h2⟩, ?_, ?_⟩
  · clear h1 h2 g
    induction f with
    | nil => exact .nil
    | cons k r ih =>
      obtain ⟨t, ht⟩ := kv_atm k
      exact .cons ⟨⟨t, ht⟩, rfl⟩ ih
  · obtain ⟨z, is, rfl, _, hl, _⟩ := g
    simp only [List.length_map, List.length_cons]
    omega
theorem eqn_pair {H : Hp} {n : Nat} {α : Type} {R S : Addr → α → Prop} {as : List Addr} {xs : List α} (h : Paired R as xs) : ∀ {bs : List Addr}, Paired S bs xs → (∀ a b x, x ∈ xs → R a x → S b x → EqN H n (.ref a) (.ref b)) → Paired (EqN H n) (as.map V.ref) (bs.map V.ref) := by
  induction h with
  | nil =>
    intro bs k _
    cases k
    exact .nil
  | @cons a x as xs r _ ih =>
    intro bs k q
    cases k with
    | cons r2 k2 => exact .cons (q _ _ _ List.mem_cons_self r r2) (ih k2 fun a b y hy => q a b y (List.mem_cons_of_mem _ hy))
theorem eqn_facts {H : Hp} {a : Addr} {fs : List Fc} (h : FactsAt H a fs) (g : ∀ f ∈ fs, GF f) (hl : fs.length ≤ 1000) : EqN H 2 (.ref a) (.ref a) := by
  obtain ⟨as, ha, hp⟩ := h
  exact .inr ⟨a, a, _, _, rfl, rfl, .inl ⟨ha, ha⟩, eqn_pair hp hp fun _ _ x hx r s => eqn_fact r s (g x hx), by rw [List.length_map, Paired.len hp]; omega⟩
theorem eqn_clause {H : Hp} {a : Addr} {c : Cz} (h : ClAt H a c) (g : GC c) (h' : ClAt H a c) : EqN H 3 (.ref a) (.ref a) := by
  obtain ⟨x, y, ha, hx, hy⟩ := h
  exact .inr ⟨a, a, _, _, rfl, rfl, .inl ⟨ha, ha⟩, .cons (eqn_facts hx g.2.1 (by have := g.1; omega)) (.cons (eqn_fact hy hy g.2.2).up .nil), by show 2 ≤ 1000000; decide⟩
theorem eqn_cls {H : Hp} {a : Addr} {cs : List Cz} (h : ClsAt H a cs) (g : ∀ c ∈ cs, GC c) (hl : cs.length ≤ 1000) : EqN H 4 (.ref a) (.ref a) := by
  obtain ⟨as, ha, hp⟩ := h
  have q : ∀ {as : List Addr} {cs : List Cz}, Paired (ClAt H) as cs → (∀ c ∈ cs, GC c) → Paired (EqN H 3) (as.map V.ref) (as.map V.ref) := by
    intro as cs h
    induction h with
    | nil => intro _; exact .nil
    | cons r _ ih => intro g; exact .cons (eqn_clause r (g _ List.mem_cons_self) r) (ih fun c hc => g c (List.mem_cons_of_mem _ hc))
  exact .inr ⟨a, a, _, _, rfl, rfl, .inl ⟨ha, ha⟩, q hp g, by rw [List.length_map, Paired.len hp]; omega⟩
theorem eqn_grs {H : Hp} {a : Addr} {gs : List (List Fc)} (h : GrsAt H a gs) (g : ∀ x ∈ gs, (∀ f ∈ x, GF f) ∧ x.length ≤ 1000) (hl : gs.length ≤ 1000) : EqN H 3 (.ref a) (.ref a) := by
  obtain ⟨as, ha, hp⟩ := h
  have q : ∀ {as : List Addr} {gs : List (List Fc)}, Paired (FactsAt H) as gs → (∀ x ∈ gs, (∀ f ∈ x, GF f) ∧ x.length ≤ 1000) → Paired (EqN H 2) (as.map V.ref) (as.map V.ref) := by
    intro as cs h
    induction h with
    | nil => intro _; exact .nil
    | cons r _ ih => intro g; exact .cons (eqn_facts r (g _ List.mem_cons_self).1 (g _ List.mem_cons_self).2) (ih fun c hc => g c (List.mem_cons_of_mem _ hc))
  exact .inr ⟨a, a, _, _, rfl, rfl, .inl ⟨ha, ha⟩, q hp g, by rw [List.length_map, Paired.len hp]; omega⟩
/-- there is just one ascending list of these facts -/
theorem up_uniq : ∀ {l m : List Fc}, UpF l → UpF m → l.Nodup → m.Nodup → (∀ f, f ∈ l ↔ f ∈ m) → l = m
  | [], [], _, _, _, _, _ => rfl
  | [], y :: m, _, _, _, _, h => absurd ((h y).mpr List.mem_cons_self) (by simp)
  | x :: l, [], _, _, _, _, h => absurd ((h x).mp List.mem_cons_self) (by simp)
  | x :: l, y :: m, hl, hm, nl, nm, h => by
    obtain ⟨l1, l2⟩ := List.pairwise_cons.mp hl
    obtain ⟨m1, m2⟩ := List.pairwise_cons.mp hm
    obtain ⟨nl1, nl2⟩ := List.nodup_cons.mp nl
    obtain ⟨nm1, nm2⟩ := List.nodup_cons.mp nm
    have e : x = y := by
      rcases List.mem_cons.mp ((h x).mp List.mem_cons_self) with e | hx
      · exact e
      · rcases List.mem_cons.mp ((h y).mpr List.mem_cons_self) with e | hy
        · exact e.symm
        · exact ltF_tot (m1 x hx) (l1 y hy)
    subst e
    have t : l = m := up_uniq l2 m2 nl2 nm2 fun f => by
      constructor
      · intro hf
        rcases List.mem_cons.mp ((h f).mp (List.mem_cons_of_mem _ hf)) with e | z
        · rw [e] at hf; exact absurd hf nl1
        · exact z
      · intro hf
        rcases List.mem_cons.mp ((h f).mpr (List.mem_cons_of_mem _ hf)) with e | z
        · rw [e] at hf; exact absurd hf nm1
        · exact z
    rw [t]
theorem allF_eq {H : Hp} {l m : Addr} {cs : List Cz} {gs : List (List Fc)} (h1 : AllF H l cs gs) (h2 : AllF H m cs gs) (g : GQ cs gs) : EqN H 2 (.ref l) (.ref m) := by
  obtain ⟨as, fs, a1, a2, a3, a4, a5, a6⟩ := h1
  obtain ⟨bs, fs2, b1, b2, b3, b4, b5, b6⟩ := h2
  have e : fs = fs2 := up_uniq a3 b3 a4 b4 fun f => (a5 f).trans (b5 f).symm
  subst e
  exact .inr ⟨l, m, _, _, rfl, rfl, .inr ⟨a1, b1⟩, eqn_pair a2 b2 fun _ _ x hx r s => eqn_fact r s (allR_gf g ((a5 x).mp hx)), by rw [List.length_map, Paired.len a2]; omega⟩
theorem AllF.same {H H' : Hp} {l : Addr} {cs : List Cz} {gs : List (List Fc)} (h : AllF H l cs gs) (s : Same H H') : AllF H' l cs gs := by
  obtain ⟨as, fs, a1, a2, r⟩ := h
  exact ⟨as, fs, s _ _ a1, Paired.mapP a2 fun _ _ z => s _ _ z, r⟩
theorem pass_no {X : Cx} : Passes (CX X.prog X.w) X E0 := fun pins σ H s e s' I h => by
  obtain ⟨_, _, _, _, _, _, _, _, _, _, _, _, hE⟩ := h
  exact hE.elim
theorem paired_rev {α β : Type} {R : α → β → Prop} {as : List α} {bs : List β} (h : Paired R as bs) : Paired R as.reverse bs.reverse := by
  induction h with
  | nil => exact .nil
  | cons r _ ih => rw [List.reverse_cons, List.reverse_cons]; exact Paired.snoc ih r
theorem GR.rev {cs : List Cz} {gs : List (List Fc)} (h : GR cs gs) : GR cs.reverse gs := ⟨fun c hc => h.cl c (List.mem_reverse.mp hc), h.gr, by rw [List.length_reverse]; exact h.nc, h.ng, h.nf⟩
/-- == of rules -/
structure EqR (P : Program) (w : World) (K : PySem.W.Frag) (mg : Str → Option Value) (base : Heap) (k : Nat) (C : Addr) where
  f : Addr
  fd : FuncData
  F : FnOk P w K mg base CX0 k f fd ["self", "other"] (spEq K C)
  hs : PySem.W.findIn K (.ref C) "__eq__" = some (some (.ref f))
  hf : PySem.W.isFn K (.ref f) = true
  b : Binds K fd ["self", "other"] []
  nf : PySem.W.notFirst K C (.ref C) = true
  nt : PySem.W.notFirst K C (.type "tuple") = true
  kt : PySem.W.kitOne K (.type "tuple") (.ref C) = some false
/-- a rule and its parts, as they stand -/
structure LI (C p t r dx ca ga : Addr) (cs : List Cz) (gs : List (List Fc)) (H : Hp) : Prop where
  hp : H p = some (.tup [.ref ca, .ref ga])
  hc : ClsAt H ca cs
  hg : GrsAt H ga gs
  ht : H t = some (.tup [.str "let", .ref r])
  hr : H r = some (.ins C dx [("clauses", .ref ca), ("grounds", .ref ga)])
theorem LI.tk {C p t r dx ca ga : Addr} {cs : List Cz} {gs : List (List Fc)} {H H' : Hp} (h : LI C p t r dx ca ga cs gs H) (k : TK H H') (e : H' r = H r) : LI C p t r dx ca ga cs gs H' := ⟨k _ _ h.hp, h.hc.tk k, h.hg.tk k, k _ _ h.ht, e.trans h.hr⟩
theorem LI.same {C p t r dx ca ga : Addr} {cs : List Cz} {gs : List (List Fc)} {H H' : Hp} (h : LI C p t r dx ca ga cs gs H) (s : Same H H') : LI C p t r dx ca ga cs gs H' := h.tk (.same s) ((s _ _ h.hr).trans h.hr.symm)
theorem LI.bl {b g C p t r dx ca ga : Addr} {cs : List Cz} {gs : List (List Fc)} {H H' : Hp} (h : LI C p t r dx ca ga cs gs H) (hB : HandAt H b g) (s : BL [b] H H') : LI C p t r dx ca ga cs gs H' := by
  refine h.tk (hB.tk s) ?_
  have : r ≠ b := fun z => by
    obtain ⟨_, _, _, _, _, h1, _⟩ := hB
    have h2 := h.hr
    rw [z, h1] at h2; cases h2
  exact (s _ _ (by simpa using this) h.hr).trans h.hr.symm
theorem LI.ru {C p t r dx ca ga : Addr} {cs : List Cz} {gs : List (List Fc)} {H : Hp} (h : LI C p t r dx ca ga cs gs H) : RuleAt H C r dx ca ga cs gs := ⟨h.hr, h.hc, h.hg⟩
theorem part_eqn {H : Hp} {p : Part} {v u : V} {n : Nat} (h1 : PartV H p v) (h2 : PartV H p u) : EqN H (n + 1) v u := by
  cases p with
  | cl => rw [show v = _ from h1, show u = _ from h2]; exact EqN.atm (.str _)
  | gr => rw [show v = _ from h1, show u = _ from h2]; exact EqN.atm (.str _)
  | at_ m => rw [show v = _ from h1, show u = _ from h2]; exact EqN.atm (.int _)
  | gn m =>
    obtain ⟨a, rfl, ha⟩ := h1
    obtain ⟨b, rfl, hb⟩ := h2
    exact .inr ⟨a, b, _, _, rfl, rfl, .inl ⟨ha, hb⟩, .cons (EqN.atm (.str _)) (.cons (EqN.atm (.int _)) .nil), by show 2 ≤ 1000000; decide⟩
theorem part_some {H : Hp} {p : Part} {v : V} (h : PartV H p v) : v ≠ .non := by
  cases p with
  | cl => rw [show v = _ from h]; intro z; cases z
  | gr => rw [show v = _ from h]; intro z; cases z
  | at_ m => rw [show v = _ from h]; intro z; cases z
  | gn m => obtain ⟨a, rfl, _⟩ := h; intro z; cases z
end L2.My
end
section
set_option Elab.async false
set_option linter.all false
set_option maxRecDepth 100000
set_option maxHeartbeats 8000000
namespace L2.My
open PySem PySem.Spec PyProof.Rows
abbrev sLaw : Stmt := top 37
abbrev nLa : List Str := ["script", "hand", "turn", "parts", "told", "found", "again", "bent", "due", "other", "more"]
def spLaw (K : PySem.W.Frag) : Sp := fun vs H Q _ => ∃ (a : Addr) (ns : List Int), vs = [.ref a] ∧ SqL K H a (ns.map V.int) ∧ ∀ H', Q (.bl true) H'
section
variable {P : Program} {w : World} {K : PySem.W.Frag} {mg : Str → Option Value} {base : Heap} {C B : Addr}
theorem scLa : FnScope nLa ["script"] (defScope sLaw) := ⟨rfl, rfl, rfl, by decide +kernel, rfl, by decide +kernel, by decide +kernel⟩
theorem ok_law {f : Addr} {fd : FuncData} {k : Nat} (F : Fun K "law" "law" sLaw f fd) (T : Tx mg) (c : RuC K C) (ci : RuI K C) (R : MkRu P w K mg base (k + 5) C B) (eR : EqR P w K mg base (k + 1) C) (mF : Met P w K mg base (k + 1) C "facts" ["self"] (spFacR C))
    (cH : Cal P w K mg base (k + 1) "_law_hand" ["script"] (spHand K)) (cD : Cal P w K mg base (k + 1) "_law_draw" ["hand", "many"] spDraw) (cP : Cal P w K mg base (k + 5) "_law_parts" ["hand", "most", "grounds"] spParts) (cTo : Cal P w K mg base (k + 7) "_law_rule_told" ["clauses", "grounds"] (spTold C B))
    (cI0 : Cal P w K mg base (k + 1) "_law_is" ["given", "due"] (spIsN 0)) (cI2 : Cal P w K mg base (k + 3) "_law_is" ["given", "due"] (spIsN 2)) (cI5 : Cal P w K mg base (k + 6) "_law_is" ["given", "due"] (spIsN 5)) (cFs : Cal P w K mg base (k + 2) "_law_facts" ["parts"] spFacs) (cSp : Cal P w K mg base (k + 5) "_law_spoilt" ["hand", "parts"] spSpoilt) (cFa : Cal P w K mg base (k + 3) "_law_rule_fault" ["clauses", "grounds"] spFault) :
    FnOk P w K mg base CX0 (k + 8) f fd ["script"] (spLaw K) := by
  refine F.ok scLa (fun vs H Q E h => ?_) (fun cdv A outer s H vs Q E hr h => ?_)
  · obtain ⟨a, ns, rfl, _⟩ := h
    rfl
  · obtain ⟨a, ns, rfl, hS, q⟩ := h
    refine ⟨_, (pss_cons (ps_set (i := 1) scLa.nd rfl (Or.inl rfl) (pe_c cH hr (by omega) (by rfl) (pa_cons (pv 0) pa_nil))) (pss_cons (ps_for PassesOwn.never rfl (pi_range1 (by rfl) T.range_ (pa_cons pe_int pa_nil)) (pg_name (i := 2) scLa.nd rfl (Or.inl rfl)) (pss_cons (ps_set (i := 3) scLa.nd rfl (Or.inl rfl) (pe_c cP hr (by omega) (by rfl) (pa_cons (pv 1) (pa_cons pe_int (pa_cons (pe_c cD hr (by omega) (by rfl) (pa_cons (pv 1) (pa_cons pe_int pa_nil))) pa_nil))))) (pss_cons (ps_set (i := 4) scLa.nd rfl (Or.inl rfl) (pe_c cTo hr (by omega) (by rfl) (pa_cons (pe_ix ix_tup (pv 3) pe_int (fun _ _ => rfl)) (pa_cons (pe_ix ix_tup (pv 3) pe_int (fun _ _ => rfl)) pa_nil)))) (pss_cons (ps_if (pt_or (pt_cmpR op_ne (pe_ix ix_tup (pv 4) pe_int (fun _ _ => rfl)) pe_str (nomark _)) (pw_or1 (pt_not (pt_val (pe_c cI5 hr (by omega) (by rfl) (pa_cons (pe_lst (pa_cons (pe_fld (pe_ix ix_tup (pv 4) pe_int (fun _ _ => rfl)) rfl) (pa_cons (pe_fld (pe_ix ix_tup (pv 4) pe_int (fun _ _ => rfl)) rfl) pa_nil))) (pa_cons (pe_callTy call_list_of (by rfl) T.list_ (by decide +kernel) (pa_cons (pv 3) pa_nil)) pa_nil))))))) (pss_one (ps_ret pe_bl)) pss_nil) (pss_cons (ps_set (i := 5) scLa.nd rfl (Or.inl rfl) (pe_meth0 (pe_ix ix_tup (pv 4) pe_int (fun _ _ => rfl)) mF.c mF.m mF.G (hr.mono (by omega)) mF.b .nil pass0)) (pss_cons (ps_if (pt_not (pt_val (pe_c cI2 hr (by omega) (by rfl) (pa_cons (pv 5) (pa_cons (pe_c cFs hr (by omega) (by rfl) (pa_cons (pv 3) pa_nil)) pa_nil))))) (pss_one (ps_ret pe_bl)) pss_nil) (pss_cons (ps_expr (pe_bm PySem.F.plainAttrs_list PySem.F.slot_list_append PySem.F.type_list_append mt_append (pv 5) (pa_cons pe_non pa_nil))) (pss_cons (ps_if (pt_not (pt_val (pe_c cI2 hr (by omega) (by rfl) (pa_cons (pe_meth0 (pe_ix ix_tup (pv 4) pe_int (fun _ _ => rfl)) mF.c mF.m mF.G (hr.mono (by omega)) mF.b .nil pass0) (pa_cons (pe_c cFs hr (by omega) (by rfl) (pa_cons (pv 3) pa_nil)) pa_nil))))) (pss_one (ps_ret pe_bl)) pss_nil) (pss_cons (ps_for PassesOwn.never rfl (pi_range1 (by rfl) T.range_ (pa_cons pe_int pa_nil)) (pg_name (i := 6) scLa.nd rfl (Or.inl rfl)) (pss_cons (ps_set (i := 7) scLa.nd rfl (Or.inl rfl) (pe_c cSp hr (by omega) (by rfl) (pa_cons (pv 1) (pa_cons (pv 3) pa_nil)))) (pss_cons (ps_par (i := 8) (j := 9) rfl scLa.nd rfl rfl (by decide) rfl rfl (pa_cons (pe_c cFa hr (by omega) (by rfl) (pa_cons (pe_ix ix_tup (pv 7) pe_int (fun _ _ => rfl)) (pa_cons (pe_ix ix_tup (pv 7) pe_int (fun _ _ => rfl)) pa_nil))) (pa_cons (pe_c cTo hr (by omega) (by rfl) (pa_cons (pe_ix ix_tup (pv 7) pe_int (fun _ _ => rfl)) (pa_cons (pe_ix ix_tup (pv 7) pe_int (fun _ _ => rfl)) pa_nil))) pa_nil)) rfl) (pss_one (ps_if (pt_cmpR op_notN1 (pv 8) pe_non (nomark _)) (pss_one (ps_if (pt_not (pt_val (pe_c cI2 hr (by omega) (by rfl) (pa_cons (pv 9) (pa_cons (pe_tup (pa_cons pe_str (pa_cons (pv 8) pa_nil))) pa_nil))))) (pss_one (ps_ret pe_bl)) pss_nil)) (pss_one (ps_if (pt_or (pt_cmpR op_ne (pe_ix ix_tup (pv 9) pe_int (fun _ _ => rfl)) pe_str (nomark _)) (pw_or1 (pt_not (pt_val (pe_c cI0 hr (by omega) (by rfl) (pa_cons (pe_cmpR (op_eqO eR.F (hr.mono (by omega)) eR.hs eR.hf eR.b pass0) (pe_ix ix_tup (pv 9) pe_int (fun _ _ => rfl)) (pe_ix ix_tup (pv 4) pe_int (fun _ _ => rfl)) (nomark _)) (pa_cons (pe_cmpR (op_eqD hr.units) (pv 7) (pv 3) (nomark _)) pa_nil))))))) (pss_one (ps_ret pe_bl)) pss_nil))))))) (pss_cons (ps_set (i := 10) scLa.nd rfl (Or.inl rfl) (pe_tup (pa_cons (pe_revT (pe_ix ix_tup (pv 3) pe_int (fun _ _ => rfl))) (pa_cons (pe_ix ix_tup (pv 3) pe_int (fun _ _ => rfl)) pa_nil)))) (pss_cons (ps_if (pt_not (pt_val (pe_c cI0 hr (by omega) (by rfl) (pa_cons (pe_cmpR (op_eqO eR.F (hr.mono (by omega)) eR.hs eR.hf eR.b pass0) (pe_make R.M R.F (hr.mono (by omega)) (by rfl) R.g R.b .nil pass_no (pa_cons (pe_ix ix_tup (pv 10) pe_int (fun _ _ => rfl)) (pa_cons (pe_ix ix_tup (pv 10) pe_int (fun _ _ => rfl)) pa_nil))) (pe_ix ix_tup (pv 4) pe_int (fun _ _ => rfl)) (nomark _)) (pa_cons (pe_cmpR (op_eqD hr.units) (pv 10) (pv 3) (nomark _)) pa_nil))))) (pss_one (ps_ret pe_bl)) pss_nil) (pss_one (ps_if (pt_or (pt_cmpR op_notBl (pe_cmpR (op_eqO eR.F (hr.mono (by omega)) eR.hs eR.hf eR.b pass0) (pe_ix ix_tup (pv 4) pe_int (fun _ _ => rfl)) (pv 3) (nomark _)) pe_bl (nomark _)) (pw_or1 (pt_cmpR op_notBl (pe_cmpR (op_eqO eR.F (hr.mono (by omega)) eR.hs eR.hf eR.b pass0) (pe_ix ix_tup (pv 4) pe_int (fun _ _ => rfl)) (pe_make R.M R.F (hr.mono (by omega)) (by rfl) R.g R.b .nil pass_no (pa_cons (pe_ix ix_tup (pv 3) pe_int (fun _ _ => rfl)) (pa_cons (pe_ix ix_tup (pv 3) pe_int (fun _ _ => rfl)) pa_nil))) (nomark _)) pe_bl (nomark _)))) (pss_one (ps_ret pe_bl)) pss_nil))))))))))))) (pss_one (ps_ret pe_bl)))), ?_⟩
    refine ⟨_, rfl, a, ns, rfl, hS, fun H1 b g s1 nb ng hB1 => ?_⟩
    refine ⟨4, rfl, by decide, by decide, ?_⟩
    refine for_it (walk_range (lo := 0)) (fun i σ G => ∃ (y2 y3 y4 y5 y6 y7 y8 y9 y10 : Option V), σ = [some (.ref a), some (.ref b), y2, y3, y4, y5, y6, y7, y8, y9, y10] ∧ HandAt G b g) ⟨_, _, _, _, _, _, _, _, _, rfl, hB1⟩ (fun i σ G _ _ => trivial) ?_ ?_
    · rintro i y σ G G' hi ⟨y2, y3, y4, y5, y6, y7, y8, y9, y10, rfl, hB⟩ ⟨rfl, rfl⟩
      refine ⟨_, rfl, _, rfl, b, g, 7, rfl, hB, by decide, by decide, fun H2 n bl2 hB2 n0 n1 => ⟨b, g, 20, n, rfl, hB2, by decide, by decide, n0, by omega, fun H3 p ca ga cs gs bl3 hB3 hp hc hg hG hgl hD => ?_⟩⟩
      obtain ⟨Dp, hD⟩ := hD
      have tc : Thg b H3 (.ref ca) := thg_cls hB3.nt hc hG.cl (by have := hG.nc; omega)
      have tg : Thg b H3 (.ref ga) := thg_grs hB3.nt hg (fun x hx => ⟨hG.gr x hx, by have := hG.nf x hx; omega⟩) (by have := hG.ng; omega)
      have hfo := fault_ok hc hg hG
      refine ⟨_, rfl, p, _, _, .ref ca, rfl, rfl, .of hp, atI_nat (j := 0) rfl, _, rfl, p, _, _, .ref ga, rfl, rfl, .of hp, atI_nat (j := 1) rfl, b, _, _, rfl, tc, tg, fun _ H4 t r dx s4 nr ht hru => ?_, fun pp hpp => by rw [hfo] at hpp; cases hpp⟩
      have li : LI C p t r dx ca ga cs gs H4 := ⟨s4 _ _ hp, hc.tk (.same s4), hg.tk (.same s4), ht, hru⟩
      have hB4 := hB3.same s4
      refine ⟨_, rfl, t, _, _, .str "let", rfl, rfl, .of ht, atI_nat (j := 0) rfl, rfl, _, rfl, ?_⟩
      rw [decide_eq_true rfl]
      refine iteF ?_
      refine ⟨_, rfl, t, _, _, .ref r, rfl, rfl, .of ht, atI_nat (j := 1) rfl, r, C, dx, _, _, rfl, hru, c.cls, c.na _ (by simp), rfl, _, rfl, t, _, _, .ref r, rfl, rfl, .of ht, atI_nat (j := 1) rfl, r, C, dx, _, _, rfl, hru, c.cls, c.na _ (by simp), rfl, by show 2 ≤ sizeLine; decide, fun l1 nl1 => ?_⟩
      have u1 := same_upd (o := HO.lst [.ref ca, .ref ga]) nl1
      refine ⟨_, rfl, p, _, rfl, .inr (.of (u1 _ _ li.hp)), fun l2 nl2 => ?_⟩
      have u2 := same_upd (o := HO.lst [.ref ca, .ref ga]) nl2
      have li2 := (li.same u1).same u2
      refine ⟨_, _, rfl, .inr ⟨l1, l2, _, _, rfl, rfl, .inr ⟨u2 _ _ upd_same, upd_same⟩, .cons (eqn_cls li2.hc hG.cl hG.nc) (.cons (eqn_grs li2.hg (fun x hx => ⟨hG.gr x hx, hG.nf x hx⟩) (by have := hG.ng; omega)).up .nil), by show 2 ≤ 1000000; decide⟩, fun H5 s5 => ⟨_, rfl, iteF ?_⟩⟩
      have li5 := li2.same s5
      have hB5 := ((hB4.same u1).same u2).same s5
      clear u1 u2 li2 nl1 nl2
      refine ⟨_, rfl, t, _, _, .ref r, rfl, rfl, .of li5.ht, atI_nat (j := 1) rfl, r, dx, _, rfl, li5.hr, rfl, r, dx, ca, ga, cs, gs, rfl, li5.ru, hG, fun H6 fl s6 nfl af6 => ?_⟩
      have li6 := li5.same s6
      have hB6 := hB5.same s6
      refine ⟨_, rfl, _, rfl, p, ca, ga, cs, gs, Dp, rfl, li6.hp, li6.hc, li6.hg, hG, hD, fun H7 fl2 s7 af7 => ⟨_, _, rfl, allF_eq (af6.same s7) af7 hG.q, fun H8 s8 => ⟨_, rfl, iteF ?_⟩⟩⟩
      have s78 := s7.trans s8
      have li8 := li6.same s78
      have hB8 := hB6.same s78
      obtain ⟨as, fs, hfl, _, _, _, _, hfn⟩ := af6.same s78
      have lfs : (as.map V.ref).length ≤ 100000 := by
        obtain ⟨as2, fs2, h1, h2, _, _, _, h6⟩ := af6.same s78
        rw [h1] at hfl
        have e := HO.lst.inj (Option.some.inj hfl)
        rw [← e, List.length_map, Paired.len h2]
        exact h6
      have nflb := hB5.nb nfl
      have nflg := hB5.ng nfl
      have rfl' : r ≠ fl := fun z => by
        have h1 := li8.hr
        rw [z, hfl] at h1; cases h1
      refine ⟨_, rfl, .inl ⟨rfl, _, SqL.of hfl⟩, fl, _, _, rfl, rfl, hfl, Nat.lt_of_le_of_lt lfs (by decide), ?_⟩
      have li9 : LI C p t r dx ca ga cs gs (upd H8 fl (.lst (as.map V.ref ++ [.non]))) := li8.tk (TK.upd hfl (fun xs e => nomatch e)) (upd_ne rfl')
      have hB9 : HandAt (upd H8 fl (.lst (as.map V.ref ++ [.non]))) b g := hB8.put nflb nflg
      generalize hH9 : upd H8 fl (.lst (as.map V.ref ++ [.non])) = H9 at *
      refine ⟨_, rfl, t, _, _, .ref r, rfl, rfl, .of li9.ht, atI_nat (j := 1) rfl, r, dx, _, rfl, li9.hr, rfl, r, dx, ca, ga, cs, gs, rfl, li9.ru, hG, fun H10 fl3 s10 nfl3 af10 => ?_⟩
      have li10 := li9.same s10
      refine ⟨_, rfl, p, ca, ga, cs, gs, Dp, rfl, li10.hp, li10.hc, li10.hg, hG, hD, fun H11 fl4 s11 af11 => ⟨_, _, rfl, allF_eq (af10.same s11) af11 hG.q, fun H12 s12 => ⟨_, rfl, iteF ?_⟩⟩⟩
      have s13 := s10.trans (s11.trans s12)
      have li12 := li9.same s13
      have hB12 := hB9.same s13
      refine ⟨3, rfl, by decide, by decide, ?_⟩
      refine for_it (walk_range (lo := 0)) (fun j σ G => ∃ (y5 y6 y7 y8 y9 : Option V), σ = [some (.ref a), some (.ref b), some (.int (0 + (i : Nat))), some (.ref p), some (.ref t), y5, y6, y7, y8, y9, y10] ∧ HandAt G b g ∧ LI C p t r dx ca ga cs gs G) ⟨_, _, _, _, _, rfl, hB12, li12⟩ (fun i σ G _ _ => trivial) ?_ ?_
      · rintro j v σ G G' hj ⟨y5, y6, y7, y8, y9, rfl, hB, li⟩ ⟨rfl, rfl⟩
        refine ⟨_, rfl, _, rfl, b, g, p, ca, ga, cs, gs, rfl, hB, li.hp, li.hc, li.hg, hG, fun H2 bt cc dd bl' hB2 hbt tcc tdd => ?_⟩
        have li2 := li.bl hB bl'
        dsimp only [gName]
        refine seq_par ?_
        cases hf : faultOf H2 cc dd with
        | none =>
          refine ⟨_, rfl, bt, _, _, cc, rfl, rfl, .of hbt, atI_nat (j := 0) rfl, _, rfl, bt, _, _, dd, rfl, rfl, .of hbt, atI_nat (j := 1) rfl, b, cc, dd, rfl, tcc, tdd, fun _ H3 s3 => ?_, fun pt hpt => by rw [hf] at hpt; cases hpt⟩
          have hf3 := (faultOf_bl tcc tdd (.same s3)).trans hf
          refine ⟨_, rfl, bt, _, _, cc, rfl, rfl, .of (s3 _ _ hbt), atI_nat (j := 0) rfl, _, rfl, bt, _, _, dd, rfl, rfl, .of (s3 _ _ hbt), atI_nat (j := 1) rfl, b, cc, dd, rfl, tcc.same s3, tdd.same s3, fun _ H4 t2 r2 dx2 s4 nr2 ht2 hr2 => ⟨_, _, rfl, ?_⟩, fun pt hpt => by rw [hf3] at hpt; cases hpt⟩
          have s34 := s3.trans s4
          have li4 := li2.same s34
          have hB4 := hB2.same s34
          obtain ⟨ca2, ga2, cs2, gs2, rfl, rfl, hc2, hg2, gq2⟩ := good_of (tcc.same s34) (tdd.same s34) ((faultOf_bl tcc tdd (.same s34)).trans hf)
          refine ⟨_, rfl, rfl, _, rfl, ?_⟩
          rw [decide_eq_true rfl]
          refine iteF ?_
          refine ⟨_, rfl, t2, _, _, .str "let", rfl, rfl, .of ht2, atI_nat (j := 0) rfl, rfl, _, rfl, ?_⟩
          rw [decide_eq_true rfl]
          refine iteF ?_
          refine ⟨_, rfl, t2, _, _, .ref r2, rfl, rfl, .of ht2, atI_nat (j := 1) rfl, _, rfl, t, _, _, .ref r, rfl, rfl, .of li4.ht, atI_nat (j := 1) rfl, r2, dx2, _, _, rfl, hr2, .base (.ins li4.hr c.cls ci.ha ci.hn ci.htk ci.hm), eR.nf, r2, dx2, ca2, ga2, cs2, gs2, .ref r, rfl, ⟨hr2, hc2, hg2⟩, gq2, .inl ⟨r, dx, ca, ga, cs, gs, rfl, li4.ru, hG.q, _, rfl, ?_⟩⟩
          refine ⟨_, rfl, _, rfl, dP cs2 gs2, dP cs gs, dpP (s34 _ _ hbt) hc2 hg2, dpP li4.hp li4.hc li4.hg, shaped_P gq2, shaped_P hG.q, ?_⟩
          rw [eqv_P]
          refine ⟨_, _, rfl, EqN.atm (.boo _), fun H5 s5 => ⟨_, rfl, iteF ?_⟩⟩
          exact ⟨_, _, _, _, _, rfl, hB4.same s5, li4.same s5⟩
        | some pt =>
          refine ⟨_, rfl, bt, _, _, cc, rfl, rfl, .of hbt, atI_nat (j := 0) rfl, _, rfl, bt, _, _, dd, rfl, rfl, .of hbt, atI_nat (j := 1) rfl, b, cc, dd, rfl, tcc, tdd, (fun hn => by rw [hf] at hn; cases hn), fun pt1 hpt1 H3 v1 s3 hv1 => ?_⟩
          have hf3 := (faultOf_bl tcc tdd (.same s3)).trans hf
          rw [hf] at hpt1
          cases hpt1
          refine ⟨_, rfl, bt, _, _, cc, rfl, rfl, .of (s3 _ _ hbt), atI_nat (j := 0) rfl, _, rfl, bt, _, _, dd, rfl, rfl, .of (s3 _ _ hbt), atI_nat (j := 1) rfl, b, cc, dd, rfl, tcc.same s3, tdd.same s3, (fun hn => by rw [hf3] at hn; cases hn), fun pt2 hpt2 H4 t2 v2 s4 hv2 ht2 => ⟨_, _, rfl, ?_⟩⟩
          rw [hf3] at hpt2
          cases hpt2
          have s34 := s3.trans s4
          have li4 := li2.same s34
          have hB4 := hB2.same s34
          refine ⟨_, rfl, rfl, _, rfl, ?_⟩
          rw [decide_eq_false (part_some hv1)]
          refine iteT ?_
          refine ⟨_, rfl, _, rfl, by show 2 ≤ sizeLine; decide, fun t3 nt3 => ?_⟩
          have s5 := same_upd (o := HO.tup [.str "refused", v1]) nt3
          refine ⟨_, _, rfl, .inr ⟨t2, t3, _, _, rfl, rfl, .inl ⟨s5 _ _ ht2, upd_same⟩, .cons (EqN.atm (.str _)) (.cons (part_eqn (hv2.same s5) ((hv1.same s4).same s5)) .nil), by show 2 ≤ 1000000; decide⟩, fun H6 s6 => ⟨_, rfl, iteF ?_⟩⟩
          exact ⟨_, _, _, _, _, rfl, (hB4.same s5).same s6, (li4.same s5).same s6⟩
      · rintro σ G ⟨y5, y6, y7, y8, y9, rfl, hB, li⟩
        obtain ⟨cas, hca, hcp⟩ := id li.hc
        refine ⟨_, rfl, p, _, _, .ref ca, rfl, rfl, .of li.hp, atI_nat (j := 0) rfl, ca, _, rfl, .of hca, fun rv nrv => ?_⟩
        have u1 := same_upd (o := HO.tup (cas.map V.ref).reverse) nrv
        refine ⟨_, rfl, p, _, _, .ref ga, rfl, rfl, .of (u1 _ _ li.hp), atI_nat (j := 1) rfl, by show 2 ≤ sizeLine; decide, fun m nm => ?_⟩
        have u2 := same_upd (o := HO.tup [.ref rv, .ref ga]) nm
        have u12 := u1.trans u2
        have liA := li.same u12
        have hBA := hB.same u12
        have hm : (upd (upd G rv (.tup (cas.map V.ref).reverse)) m (.tup [.ref rv, .ref ga])) m = some (.tup [.ref rv, .ref ga]) := upd_same
        have hcr : ClsAt (upd (upd G rv (.tup (cas.map V.ref).reverse)) m (.tup [.ref rv, .ref ga])) rv cs.reverse := ⟨cas.reverse, by rw [u2 _ _ upd_same, List.map_reverse], Paired.mapP (paired_rev hcp) fun _ _ z => z.tk (.same u12)⟩
        generalize hGA : upd (upd G rv (.tup (cas.map V.ref).reverse)) m (.tup [.ref rv, .ref ga]) = GA at *
        have hGr := hG.rev
        have tcr : Thg b GA (.ref rv) := thg_cls hBA.nt hcr hGr.cl (by have := hGr.nc; omega)
        have tgr : Thg b GA (.ref ga) := thg_grs hBA.nt liA.hg (fun x hx => ⟨hG.gr x hx, by have := hG.nf x hx; omega⟩) (by have := hG.ng; omega)
        have tcl : Thg b GA (.ref ca) := thg_cls hBA.nt liA.hc hG.cl (by have := hG.nc; omega)
        have hfr := fault_ok hcr liA.hg hGr
        refine ⟨_, rfl, m, _, _, .ref rv, rfl, rfl, .of hm, atI_nat (j := 0) rfl, _, rfl, m, _, _, .ref ga, rfl, rfl, .of hm, atI_nat (j := 1) rfl, fun x dx2 nx ndx ne => ?_⟩
        have s1 : Same GA (upd (upd GA dx2 (.own x)) x (.ins C dx2 [])) := (same_upd ndx).trans (same_upd (by rw [upd_ne (Ne.symm ne)]; exact nx))
        refine ⟨b, x, dx2, .ref rv, .ref ga, rfl, upd_same, tcr.same s1, tgr.same s1, fun _ H' bl hx' => ⟨rfl, ?_⟩, fun pp hpp => by rw [faultOf_bl tcr tgr (.same s1), hfr] at hpp; cases hpp⟩
        have s3 : Same GA H' := fun p o hp => bl p o (by
          intro hm
          rw [List.mem_singleton.mp hm, nx] at hp
          cases hp) (s1 _ _ hp)
        have liB := liA.same s3
        have hBB := hBA.same s3
        have hcrB := hcr.tk (.same s3)
        refine ⟨_, rfl, t, _, _, .ref r, rfl, rfl, .of liB.ht, atI_nat (j := 1) rfl, x, dx2, _, _, rfl, hx', .base (.ins liB.hr c.cls ci.ha ci.hn ci.htk ci.hm), eR.nf, x, dx2, rv, ga, cs.reverse, gs, .ref r, rfl, ⟨hx', hcrB, liB.hg⟩, hGr.q, .inl ⟨r, dx, ca, ga, cs, gs, rfl, liB.ru, hG.q, _, rfl, ?_⟩⟩
        refine ⟨_, rfl, _, rfl, dP cs.reverse gs, dP cs gs, dpP (s3 _ _ hm) hcrB liB.hg, dpP liB.hp liB.hc liB.hg, shaped_P hGr.q, shaped_P hG.q, ?_⟩
        rw [eqv_P]
        refine ⟨_, _, rfl, EqN.atm (.boo _), fun H5 s5 => ⟨_, rfl, iteF ?_⟩⟩
        have liC := liB.same s5
        have hBC := hBB.same s5
        refine ⟨_, rfl, t, _, _, .ref r, rfl, rfl, .of liC.ht, atI_nat (j := 1) rfl, _, rfl, r, dx, _, _, rfl, liC.hr, (ThT.tup liC.hp).tyX, eR.nt, r, dx, ca, ga, cs, gs, .ref p, rfl, liC.ru, hG.q, .inr ⟨_, (ThT.tup liC.hp).tyX, eR.kt, _, rfl, _, _, rfl, rfl, _, rfl, iteF ?_⟩⟩
        have tc5 := (tcl.same s3).same s5
        have tg5 := (tgr.same s3).same s5
        have hf5 := fault_ok liC.hc liC.hg hG
        refine ⟨_, rfl, t, _, _, .ref r, rfl, rfl, .of liC.ht, atI_nat (j := 1) rfl, _, rfl, p, _, _, .ref ca, rfl, rfl, .of liC.hp, atI_nat (j := 0) rfl, _, rfl, p, _, _, .ref ga, rfl, rfl, .of liC.hp, atI_nat (j := 1) rfl, fun z dz nz ndz nez => ?_⟩
        have w1 : Same H5 (upd (upd H5 dz (.own z)) z (.ins C dz [])) := (same_upd ndz).trans (same_upd (by rw [upd_ne (Ne.symm nez)]; exact nz))
        refine ⟨b, z, dz, .ref ca, .ref ga, rfl, upd_same, tc5.same w1, tg5.same w1, fun _ H6 bl6 hz => ⟨rfl, ?_⟩, fun pp hpp => by rw [faultOf_bl tc5 tg5 (.same w1), hf5] at hpp; cases hpp⟩
        have w3 : Same H5 H6 := fun p o hp => bl6 p o (by
          intro hm
          rw [List.mem_singleton.mp hm, nz] at hp
          cases hp) (w1 _ _ hp)
        have liD := liC.same w3
        refine ⟨r, dx, _, _, rfl, liD.hr, .base (.ins hz c.cls ci.ha ci.hn ci.htk ci.hm), eR.nf, r, dx, ca, ga, cs, gs, .ref z, rfl, liD.ru, hG.q, .inl ⟨z, dz, ca, ga, cs, gs, rfl, ⟨hz, liD.hc, liD.hg⟩, hG.q, _, rfl, _, _, rfl, rfl, _, rfl, ?_⟩⟩
        rw [decide_eq_true (show cs = cs ∧ gs = gs from ⟨rfl, rfl⟩)]
        refine iteF ?_
        exact ⟨_, _, _, _, _, _, _, _, _, rfl, hBC.same w3⟩
    · rintro σ G ⟨y2, y3, y4, y5, y6, y7, y8, y9, y10, rfl, hB⟩
      exact q G
end
end L2.My
end
section
set_option Elab.async false
set_option linter.all false
set_option maxRecDepth 100000
set_option maxHeartbeats 4000000
/-! A Hook of facts by names, of defs, and of one more Bool. -/
namespace L2.My
open PySem PySem.Spec PyProof.Rows He
abbrev AlY : Type := Al × Bool
def obsY (fa : List Fa) (fn : List FnD) (ex : PySem.W.Frag → Bool) (K : PySem.W.Frag) : AlY := (obsE fa fn K, ex K && fn.all fun d => PySem.W.keepIn K (.ref (fAd K d.at_)))
def valY (fn : List FnD) : AlY := (valE fn, true)
def obsYG (n : Nat) (fa : List Fa) (fn : List FnD) (ex : PySem.W.Frag → Bool) (g : Addr → Option Obj) : AlY := obsY fa fn ex (frG g (asD g n))
structure SaysY (fa : List Fa) (fn : List FnD) (ex : PySem.W.Frag → Bool) (K : PySem.W.Frag) : Prop where
  e : SaysE fa fn K
  more : ex K = true
  kp : ∀ d ∈ fn, PySem.W.keepIn K (.ref (fAd K d.at_)) = true
theorem saysY_of {fa : List Fa} {fn : List FnD} {ex : PySem.W.Frag → Bool} {K : PySem.W.Frag} (e : obsY fa fn ex K = valY fn) : SaysY fa fn ex K := by
  have e1 : obsE fa fn K = valE fn := congrArg (fun z : AlY => z.1) e
  have e2 : (ex K && fn.all fun d => PySem.W.keepIn K (.ref (fAd K d.at_))) = true := congrArg (fun z : AlY => z.2) e
  obtain ⟨h1, h2⟩ := ba e2
  exact ⟨e1, h1, fun d hd => List.all_eq_true.mp h2 d hd⟩
def hookY (n : Nat) (fa : List Fa) (fn : List FnD) (ex : PySem.W.Frag → Bool) : PySem.W.Hook where
  α := AlY
  obs := fun s => obsYG n fa fn ex s.heap.get?
  val := fun _ => valY fn
  says := fun _ h => ∃ K : PySem.W.Frag, K.In h ∧ SaysY fa fn ex K
  of := fun _ _ e => ⟨_, frG_in, saysY_of e⟩
  keeps := fun _ _ _ ⟨K, hK, c⟩ k => ⟨K, PySem.W.Frag.In.keeps hK k, c⟩
theorem obsYG_eq {n : Nat} {fa : List Fa} {fn : List FnD} {ex : PySem.W.Frag → Bool} {g : Addr → Option Obj} {s : Shared} (h : ∀ a, g a = s.heap.get? a) : obsYG n fa fn ex g = (hookY n fa fn ex).obs s := by
  have e : g = s.heap.get? := funext h
  rw [e] <;> rfl
section
variable {fa : List Fa} {fn : List FnD} {ex : PySem.W.Frag → Bool} {K : PySem.W.Frag}
theorem SaysY.fact (c : SaysY fa fn ex K) {f : Fa} (h : f ∈ fa) : f.ok K = true := by
  obtain ⟨i, hi, e⟩ := List.mem_iff_getElem.mp h
  exact c.e.fact i (f := f) (by rw [List.getElem?_eq_getElem hi, e])
/-- a def of the text, by its place in the list -/
theorem SaysY.fun_ (c : SaysY fa fn ex K) {d : FnD} {st : Stmt} (h : d ∈ fn) (hp : d.params = defArgs st) (hb : d.body = defBody st) (hs : d.scope = defScope st) : ∃ fd, Fun K d.name d.qual st (fAd K d.at_) fd := by
  obtain ⟨i, hi, e⟩ := List.mem_iff_getElem.mp h
  obtain ⟨oc, od, osl, kV, doc, pm, an, cdv, ct, lk, hc⟩ := c.e.def_ i (d := d) (by rw [List.getElem?_eq_getElem hi, e])
  rw [hp, hb, hs] at lk
  exact ⟨_, fun_mk lk hc (c.kp d h)⟩
end
/-! ### an own exception class, decided -/
def exB (K : PySem.W.Frag) (C : Addr) : Bool := match K.lookup C with
  | some ⟨.type "type", _, .cls cd, sl⟩ => (match cd.mro, sl.toList with
    | .ref C' :: bm, [_, _, _, _, some (.builtin n), _] => C' == C && n == "ValueError.__new__" && !cd.hasDel && PySem.HandSPX.refsVE bm && cd.hasDict
    | _, _ => false)
  | _ => false
theorem exB_ok {K : PySem.W.Frag} {C : Addr} (q : exB K C = true) : ∃ nm q N bs bm sn sub ab col dd k0 k1 k2 k3 k5, K.lookup C = some (excClassObj nm q C N bs bm true sn sub ab col dd k0 k1 k2 k3 k5 "ValueError.__new__") ∧ PySem.HandSPX.refsVE bm = true := by
  unfold exB at q
  split at q
  · rename_i dd cd sl ho
    split at q
    · rename_i C' bm k0 k1 k2 k3 n k5 hm hs
      simp only [Bool.and_eq_true, beq_iff_eq, Bool.not_eq_true'] at q
      obtain ⟨⟨⟨⟨rfl, rfl⟩, hdel⟩, hr⟩, hd⟩ := q
      obtain ⟨nm, bs, mro, ns, qn, hdct, sn, sub, ab, col, del⟩ := cd
      dsimp only at hm hdel hd
      subst hm hdel hd
      have hsl : sl = #[k0, k1, k2, k3, some (.builtin "ValueError.__new__"), k5] := by
        obtain ⟨l⟩ := sl
        simp only at hs
        rw [hs]
      subst hsl
      exact ⟨nm, qn, ns, bs, bm, sn, sub, ab, col, dd, k0, k1, k2, k3, k5, ho, hr⟩
    · cases q
  · cases q
def eqV (a b : Option Value) : Bool := decide (a = b)
theorem eqV_ok {a b : Option Value} (h : eqV a b = true) : a = b := of_decide_eq_true h
def eqB (a b : Option Bool) : Bool := decide (a = b)
theorem eqB_ok {a b : Option Bool} (h : eqB a b = true) : a = b := of_decide_eq_true h
def xcB (K : PySem.W.Frag) (C : Addr) : Bool := exB K C && (eqO (PySem.W.findIn K (.ref C) "__setattr__") (some (some (.builtin "object.__setattr__"))) && (eqB (PySem.W.subIn K (.ref C) (.type "BaseException")) (some true) && (eqV (PySem.W.typeIn K (.ref C)) (some (.type "type")) && (PySem.W.keepIn K (.ref C) &&
  (eqO (PySem.W.findIn K (.ref C) "__getattribute__") (some (some (.builtin "BaseException.__getattribute__"))) && (eqO (PySem.W.findIn K (.ref C) "__getattr__") (some none) && (eqO (PySem.W.findIn K (.ref C) "__class__") (some (some (.builtin "object.__class__"))) &&
  (eqO (PySem.W.specialIn K (.builtin "object.__class__") "__get__") (some (some (.builtin "getset_descriptor.__get__"))) && (eqB (PySem.W.takesIn K (.builtin "object.__class__")) (some true) && (eqB (PySem.W.mroIn K C (.type "object")) (some true) && PySem.W.hasDictIn K C))))))))))
theorem xcB_ok {K : PySem.W.Frag} {C : Addr} (q : xcB K C = true) : XC K C := by
  obtain ⟨h1, q⟩ := ba q
  obtain ⟨h2, q⟩ := ba q
  obtain ⟨h3, q⟩ := ba q
  obtain ⟨h4, q⟩ := ba q
  obtain ⟨h5, q⟩ := ba q
  obtain ⟨h6, q⟩ := ba q
  obtain ⟨h7, q⟩ := ba q
  obtain ⟨h8, q⟩ := ba q
  obtain ⟨h9, q⟩ := ba q
  obtain ⟨h10, q⟩ := ba q
  obtain ⟨h11, h12⟩ := ba q
  exact ⟨⟨exB_ok h1, eqO_ok h2, eqB_ok h3, eqV_ok h4, h5⟩, eqO_ok h6, eqO_ok h7, eqO_ok h8, eqO_ok h9, eqB_ok h10, eqB_ok h11, h12⟩
end L2.My
end
section
set_option Elab.async false
set_option linter.all false
set_option maxRecDepth 100000
set_option maxHeartbeats 4000000
namespace L2.My
open PySem PySem.Spec PyProof.Rows He
/-! The head of k50: what is looked at. -/
theorem fun_of {K : PySem.W.Frag} {x q : Str} {st : Stmt} {f : Addr} {fd : FuncData} (F : FunD K x q (defArgs st) (defBody st) (defScope st) [] [] f fd) : Fun K x q st f fd := by
  obtain ⟨oc, od, dV, kV, doc, pm, an, cdv, ct, osl, e, l, c, d, _⟩ := F.ex
  rcases d with ⟨_, rfl⟩ | ⟨h, _⟩
  · exact ⟨⟨oc, od, kV, doc, pm, an, cdv, ct, osl, e, l, c⟩, F.kp⟩
  · exact absurd rfl h
def eD (x : Str) (st : Stmt) : DefD := { at_ := (x, none), name := x, qual := x, params := defArgs st, body := defBody st, scope := defScope st }
def eM (C m q : Str) (st : Stmt) : DefD := { at_ := (C, some m), name := m, qual := q, params := defArgs st, body := defBody st, scope := defScope st }
def fnK : List DefD := [eD "is_below" sBelow, eD "is_word" sWord, eD "is_fact" sFact, eD "is_tuple_of" sTupOf, eD "is_facts" sFacts, eD "is_clause" sClause,
  eD "_law_hand" sHand, eD "_law_draw" sDraw, eD "_law_any" sAny, eD "_law_nested" sNest, eD "_law_is" sIs, eD "_law_fact" sLfact, eD "_law_pool" sPool, eD "_law_parts" sParts, eD "_law_ground_facts" sGf, eD "_law_facts" sFacs, eD "_law_is_fact" sLif, eD "_law_is_number" sNum, eD "_law_bad_fact" sBadF, eD "_law_rule_fault" sFault, eD "_law_rule_told" sTold, eD "_law_spoilt" sSpoilt, eD "law" sLaw,
  eM "BadRule" "__init__" "BadRule.__init__" sBad, eM "Rule" "__init__" "Rule.__init__" (mR 0), eM "Rule" "__eq__" "Rule.__eq__" (mR 1), eM "Rule" "facts" "Rule.facts" (mR 2)]
def gloK : List Str := ["is_below", "is_word", "is_fact", "is_tuple_of", "is_facts", "is_clause", "_law_hand", "_law_draw", "_law_any", "_law_nested", "_law_is", "_law_fact", "_law_pool", "_law_parts", "_law_ground_facts", "_law_facts", "_law_is_fact", "_law_is_number", "_law_bad_fact", "_law_rule_fault", "_law_rule_told", "_law_spoilt", "law", "Rule", "BadRule", "PostError"]
def freeK : List Str := ["isinstance", "int", "bool", "str", "len", "all", "tuple", "list", "sorted", "range", "enumerate", "abs", "zip", "set", "ValueError"]
def noaR : List Str := ["clauses", "grounds"]
def restK : List Fa := [.int "MOST_LETTERS" 12, .int "NUMBER_BOUND" 1000000000000, .int "MOST_NUMBERS" 4, .int "MOST_BODY" 4, .int "MOST_CLAUSES" 20000, .int "MOST_GROUNDS" 60, .int "MOST_FACTS" 5000, .cls "Rule", .mkr "Rule", .meth "Rule" "facts"]
def faK : List Fa := gloK.map .glo ++ (freeK.map .free ++ (restK ++ noaR.map (.noat "Rule")))
def exK1 (K : PySem.W.Frag) : Bool := xcB K (ga K "BadRule") && (eqO (PySem.W.findIn K (.ref (ga K "BadRule")) "part") (some none) && (eqO (PySem.W.findIn K (.ref (ga K "BadRule")) "__init__") (some (some (.ref (ma K (ga K "BadRule") "__init__")))) &&
  (eqV (PySem.W.typeIn K (.ref (ma K (ga K "BadRule") "__init__"))) (some (.type "function")) && (eqB (PySem.W.kitOne K (.ref (ga K "BadRule")) (.ref (ga K "PostError"))) (some true) && (eqB (PySem.W.kitOne K (.ref (ga K "BadRule")) (.type "ValueError")) (some true) &&
  (eqB (PySem.W.exmOne K (.ref (ga K "BadRule")) (.ref (ga K "BadRule"))) (some true) && (eqO (PySem.W.findIn K (.ref (ga K "Rule")) "__class__") (some (some (.builtin "object.__class__"))) && (eqO (PySem.W.specialIn K (.builtin "object.__class__") "__get__") (some (some (.builtin "getset_descriptor.__get__"))) &&
  (eqB (PySem.W.takesIn K (.builtin "object.__class__")) (some true) && (eqB (PySem.W.mroIn K (ga K "Rule") (.type "object")) (some true) && (eqB (PySem.W.kitOne K (.ref (ga K "Rule")) (.ref (ga K "Rule"))) (some true) &&
  (eqO (PySem.W.findIn K (.ref (ga K "Rule")) "__eq__") (some (some (.ref (ma K (ga K "Rule") "__eq__")))) && (PySem.W.isFn K (.ref (ma K (ga K "Rule") "__eq__")) && (PySem.W.notFirst K (ga K "Rule") (.ref (ga K "Rule")) && (PySem.W.notFirst K (ga K "Rule") (.type "tuple") && eqB (PySem.W.kitOne K (.type "tuple") (.ref (ga K "Rule"))) (some false))))))))))))))))
def tsK : List Tab := []
def tfK : List Defn := []
abbrev RK : PySem.W.OpenRow := PySem.W.OpenLaw.row PySem.Challenge.rw_strangerspost_k50_whole_rules_judged
abbrev hkK : PySem.W.Hook := hookX 6 faK fnK tsK tfK exK1
def obK (s : PySem.W.SharedT) : AlX := obsX 6 faK fnK tsK tfK exK1 (HandSHeadRun.getT s)
theorem obK_eq (s : PySem.W.SharedT) : obK s = hkK.obs s.abs := obsX_eq (HandSHeadRun.getT_eq s)
end L2.My
end
section
set_option Elab.async false
set_option linter.all false
set_option maxRecDepth 100000
set_option maxHeartbeats 0
namespace L2.My
open PySem PySem.Spec PyProof.Rows He
abbrev looA : List PySem.Str := ["PostError", "BadRule", "is_below", "MOST_LETTERS", "is_word", "NUMBER_BOUND", "MOST_NUMBERS", "MOST_BODY", "MOST_CLAUSES", "MOST_GROUNDS", "MOST_FACTS", "is_fact", "is_tuple_of", "is_facts", "is_clause", "Rule"]
abbrev looB : List PySem.Str := ["_law_hand", "_law_draw", "_law_any", "_law_nested", "_law_is", "_law_fact", "_law_pool", "_law_parts", "_law_ground_facts", "_law_facts", "_law_is_fact", "_law_is_number", "_law_bad_fact", "_law_rule_fault", "_law_rule_told", "_law_spoilt"]
theorem lawAt : RK.prog.main.body.length = 38 := by kernel_rfl
theorem law37 : (HandSHeadRun.topDef RK.prog 37).name = ("law" : PySem.Str) := by kernel_rfl
theorem run (w : World) : HandSHeadRun.RunEq RK (PySem.W.view RK.prog [37]) hkK obK 12000 (looA ++ looB) w := by
  intro os
  kernel_rfl
end L2.My
end
section
set_option Elab.async false
set_option linter.all false
set_option maxRecDepth 100000
set_option maxHeartbeats 4000000
namespace L2.My
open PySem PySem.Spec PyProof.Rows He LamX
section
variable {P : Program} {w : World} {K : PySem.W.Frag} {mg : Str → Option Value} {h0 base : Heap}
abbrev SX (w : World) (h : Heap) (K : PySem.W.Frag) : Prop := SaysX faK fnK tsK tfK exK1 w h K
theorem defAt (c : SX w h0 K) (i : Nat) {x : Str} {st : Stmt} (h : fnK[i]? = some (eD x st) := by rfl) : ∃ fd, Fun K x x st (ga K x) fd := by
  obtain ⟨fd, F⟩ := c.t.d.def_ i (d := eD x st) h
  exact ⟨fd, fun_of F⟩
theorem mthAt (c : SX w h0 K) (i : Nat) {C m q : Str} {st : Stmt} (h : fnK[i]? = some (eM C m q st) := by rfl) : ∃ fd, Fun K m q st (ma K (ga K C) m) fd := by
  obtain ⟨fd, F⟩ := c.t.d.def_ i (d := eM C m q st) h
  exact ⟨fd, fun_of F⟩
theorem factM (c : SX w h0 K) {f : Fa} (h : f ∈ faK) : f.ok K = true := c.t.d.facts h
theorem gloM (X : K.In h0) (G : h0.Ns mainGlobals mg) (c : SX w h0 K) {x : Str} (h : x ∈ gloK := by decide +kernel) : mg x = some (.ref (ga K x)) := glo_ok X G (factM c (List.mem_append_left _ (List.mem_map_of_mem h)))
theorem freeM (X : K.In h0) (G : h0.Ns mainGlobals mg) (c : SX w h0 K) {x : Str} (h : x ∈ freeK := by decide +kernel) : mg x = none := free_ok X G (factM c (List.mem_append_right _ (List.mem_append_left _ (List.mem_map_of_mem h))))
theorem restM (c : SX w h0 K) (i : Nat) {f : Fa} (h : restK[i]? = some f := by rfl) : f.ok K = true := factM c (List.mem_append_right _ (List.mem_append_right _ (List.mem_append_left _ (List.mem_of_getElem? h))))
theorem ruC (c : SX w h0 K) : RuC K (ga K "Rule") := ⟨cls_ok (restM c 7), fun f hf => noat_ok (factM c (List.mem_append_right _ (List.mem_append_right _ (List.mem_append_right _ (List.mem_map_of_mem (show f ∈ noaR from hf))))))⟩
theorem txt (X : K.In h0) (G : h0.Ns mainGlobals mg) (c : SX w h0 K) : Tx mg :=
  ⟨freeM X G c, freeM X G c, freeM X G c, freeM X G c, freeM X G c, freeM X G c, freeM X G c, freeM X G c, freeM X G c, freeM X G c, freeM X G c, freeM X G c, freeM X G c, freeM X G c, int_ok X G (restM c 0), int_ok X G (restM c 1), int_ok X G (restM c 2), int_ok X G (restM c 3), int_ok X G (restM c 4), int_ok X G (restM c 5), int_ok X G (restM c 6)⟩
structure MoreK (K : PySem.W.Frag) : Prop where
  x : XC K (ga K "BadRule")
  no : PySem.W.findIn K (.ref (ga K "BadRule")) "part" = some none
  i : PySem.W.findIn K (.ref (ga K "BadRule")) "__init__" = some (some (.ref (ma K (ga K "BadRule") "__init__")))
  t : PySem.W.typeIn K (.ref (ma K (ga K "BadRule") "__init__")) = some (.type "function")
  kP : PySem.W.kitOne K (.ref (ga K "BadRule")) (.ref (ga K "PostError")) = some true
  kV : PySem.W.kitOne K (.ref (ga K "BadRule")) (.type "ValueError") = some true
  te : PySem.W.exmOne K (.ref (ga K "BadRule")) (.ref (ga K "BadRule")) = some true
  ri : RuI K (ga K "Rule")
  hs : PySem.W.findIn K (.ref (ga K "Rule")) "__eq__" = some (some (.ref (ma K (ga K "Rule") "__eq__")))
  hf : PySem.W.isFn K (.ref (ma K (ga K "Rule") "__eq__")) = true
  nf : PySem.W.notFirst K (ga K "Rule") (.ref (ga K "Rule")) = true
  nt : PySem.W.notFirst K (ga K "Rule") (.type "tuple") = true
  kt : PySem.W.kitOne K (.type "tuple") (.ref (ga K "Rule")) = some false
theorem moreK (c : SX w h0 K) : MoreK K := by
  have m := c.more
  unfold exK1 at m
  obtain ⟨m0, m⟩ := ba m
  obtain ⟨m1, m⟩ := ba m
  obtain ⟨m2, m⟩ := ba m
  obtain ⟨m3, m⟩ := ba m
  obtain ⟨m4, m⟩ := ba m
  obtain ⟨m5, m⟩ := ba m
  obtain ⟨m6, m⟩ := ba m
  obtain ⟨m7, m⟩ := ba m
  obtain ⟨m8, m⟩ := ba m
  obtain ⟨m9, m⟩ := ba m
  obtain ⟨m10, m⟩ := ba m
  obtain ⟨m11, m⟩ := ba m
  obtain ⟨m12, m⟩ := ba m
  obtain ⟨m13, m⟩ := ba m
  obtain ⟨m14, m⟩ := ba m
  obtain ⟨m15, m16⟩ := ba m
  exact ⟨xcB_ok m0, eqO_ok m1, eqO_ok m2, eqV_ok m3, eqB_ok m4, eqB_ok m5, eqB_ok m6, ⟨eqO_ok m7, eqO_ok m8, eqB_ok m9, eqB_ok m10, eqB_ok m11⟩, eqO_ok m12, m13, m14, m15, eqB_ok m16⟩
def calAt {k : Nat} {x : Str} {ps : List Str} {sp : Sp} {fd : FuncData} {st : Stmt} (X : K.In h0) (G : h0.Ns mainGlobals mg) (c : SX w h0 K) (F : Fun K x x st (ga K x) fd) (H : FnOk P w K mg base CX0 k (ga K x) fd ps sp) (b : Binds K fd ps []) (h : x ∈ gloK := by decide +kernel) : Cal P w K mg base k x ps sp := ⟨ga K x, fd, H, F.kp, gloM X G c h, b⟩
end
end L2.My
end
section
set_option Elab.async false
set_option linter.all false
set_option maxRecDepth 100000
set_option maxHeartbeats 4000000
namespace L2.My
open PySem PySem.Spec PyProof.Rows He LamX
section
variable {P : Program} {w : World} {K : PySem.W.Frag} {mg : Str → Option Value} {h0 : Heap}
theorem facts {f : Addr} (X : K.In h0) (G : h0.Ns mainGlobals mg) (hfa : mg ("law" : Str) = some (.ref f)) (c : SX w h0 K) :
    ∃ fd : FuncData, (∀ (s : Shared) (v : Value), BindsTo s fd ⟨[v], []⟩ [("script", v)]) ∧ ∀ base : Heap, K.In base → base.Ns mainGlobals mg → (∀ p ∈ ([] : List (Addr × Addr)), TabB base mg p.1 p.2) → FnOk P w K mg base CX0 8 f fd ["script"] (spLaw K) := by
  have e := hfa.symm.trans (gloM X G c (x := "law"))
  cases e
  obtain ⟨fdLaw, FLaw⟩ := defAt c 22 (x := "law") (st := sLaw)
  refine ⟨fdLaw, fun s v => ?_, fun base _ _ _ => ?_⟩
  · obtain ⟨oc, od, kV, doc, pm, an, cdv, ct, osl, rfl, lk, hcd⟩ := FLaw.ex
    exact .of_eq rfl
  have T := txt X G c
  have rc := ruC c
  have m := moreK c
  obtain ⟨fdBel, FBel⟩ := defAt c 0 (x := "is_below") (st := sBelow)
  obtain ⟨fdWor, FWor⟩ := defAt c 1 (x := "is_word") (st := sWord)
  obtain ⟨fdFac, FFac⟩ := defAt c 2 (x := "is_fact") (st := sFact)
  obtain ⟨fdTup, FTup⟩ := defAt c 3 (x := "is_tuple_of") (st := sTupOf)
  obtain ⟨fdFcs, FFcs⟩ := defAt c 4 (x := "is_facts") (st := sFacts)
  obtain ⟨fdCla, FCla⟩ := defAt c 5 (x := "is_clause") (st := sClause)
  obtain ⟨fdHan, FHan⟩ := defAt c 6 (x := "_law_hand") (st := sHand)
  obtain ⟨fdDra, FDra⟩ := defAt c 7 (x := "_law_draw") (st := sDraw)
  obtain ⟨fdAny, FAny⟩ := defAt c 8 (x := "_law_any") (st := sAny)
  obtain ⟨fdNes, FNes⟩ := defAt c 9 (x := "_law_nested") (st := sNest)
  obtain ⟨fdIs, FIs⟩ := defAt c 10 (x := "_law_is") (st := sIs)
  obtain ⟨fdLfa, FLfa⟩ := defAt c 11 (x := "_law_fact") (st := sLfact)
  obtain ⟨fdPoo, FPoo⟩ := defAt c 12 (x := "_law_pool") (st := sPool)
  obtain ⟨fdPar, FPar⟩ := defAt c 13 (x := "_law_parts") (st := sParts)
  obtain ⟨fdGfa, FGfa⟩ := defAt c 14 (x := "_law_ground_facts") (st := sGf)
  obtain ⟨fdFas, FFas⟩ := defAt c 15 (x := "_law_facts") (st := sFacs)
  obtain ⟨fdLif, FLif⟩ := defAt c 16 (x := "_law_is_fact") (st := sLif)
  obtain ⟨fdNum, FNum⟩ := defAt c 17 (x := "_law_is_number") (st := sNum)
  obtain ⟨fdBdf, FBdf⟩ := defAt c 18 (x := "_law_bad_fact") (st := sBadF)
  obtain ⟨fdFlt, FFlt⟩ := defAt c 19 (x := "_law_rule_fault") (st := sFault)
  obtain ⟨fdTol, FTol⟩ := defAt c 20 (x := "_law_rule_told") (st := sTold)
  obtain ⟨fdSpo, FSpo⟩ := defAt c 21 (x := "_law_spoilt") (st := sSpoilt)
  obtain ⟨fdBI, FBI⟩ := mthAt c 23 (C := "BadRule") (m := "__init__") (q := "BadRule.__init__") (st := sBad)
  obtain ⟨fdRI, FRI⟩ := mthAt c 24 (C := "Rule") (m := "__init__") (q := "Rule.__init__") (st := mR 0)
  obtain ⟨fdRE, FRE⟩ := mthAt c 25 (C := "Rule") (m := "__eq__") (q := "Rule.__eq__") (st := mR 1)
  obtain ⟨fdRF, FRF⟩ := mthAt c 26 (C := "Rule") (m := "facts") (q := "Rule.facts") (st := mR 2)
  have bBel : Binds K fdBel ["bound", "thing"] [] := FBel.binds (ps := ["bound", "thing"]) fun _ _ _ _ _ _ us hl => match us, hl with | [_, _], _ => rfl
  have bWor : Binds K fdWor ["thing"] [] := FWor.binds (ps := ["thing"]) fun _ _ _ _ _ _ us hl => match us, hl with | [_], _ => rfl
  have bFac : Binds K fdFac ["thing"] [] := FFac.binds (ps := ["thing"]) fun _ _ _ _ _ _ us hl => match us, hl with | [_], _ => rfl
  have bTup : Binds K fdTup ["most", "thing"] [] := FTup.binds (ps := ["most", "thing"]) fun _ _ _ _ _ _ us hl => match us, hl with | [_, _], _ => rfl
  have bFcs : Binds K fdFcs ["most", "thing"] [] := FFcs.binds (ps := ["most", "thing"]) fun _ _ _ _ _ _ us hl => match us, hl with | [_, _], _ => rfl
  have bCla : Binds K fdCla ["thing"] [] := FCla.binds (ps := ["thing"]) fun _ _ _ _ _ _ us hl => match us, hl with | [_], _ => rfl
  have bHan : Binds K fdHan ["script"] [] := FHan.binds (ps := ["script"]) fun _ _ _ _ _ _ us hl => match us, hl with | [_], _ => rfl
  have bDra : Binds K fdDra ["hand", "many"] [] := FDra.binds (ps := ["hand", "many"]) fun _ _ _ _ _ _ us hl => match us, hl with | [_, _], _ => rfl
  have bAny : Binds K fdAny ["hand", "items"] [] := FAny.binds (ps := ["hand", "items"]) fun _ _ _ _ _ _ us hl => match us, hl with | [_, _], _ => rfl
  have bNes : Binds K fdNes ["hand"] [] := FNes.binds (ps := ["hand"]) fun _ _ _ _ _ _ us hl => match us, hl with | [_], _ => rfl
  have bIs : Binds K fdIs ["given", "due"] [] := FIs.binds (ps := ["given", "due"]) fun _ _ _ _ _ _ us hl => match us, hl with | [_, _], _ => rfl
  have bLfa : Binds K fdLfa ["hand"] [] := FLfa.binds (ps := ["hand"]) fun _ _ _ _ _ _ us hl => match us, hl with | [_], _ => rfl
  have bPoo : Binds K fdPoo ["hand", "many"] [] := FPoo.binds (ps := ["hand", "many"]) fun _ _ _ _ _ _ us hl => match us, hl with | [_, _], _ => rfl
  have bPar : Binds K fdPar ["hand", "most", "grounds"] [] := FPar.binds (ps := ["hand", "most", "grounds"]) fun _ _ _ _ _ _ us hl => match us, hl with | [_, _, _], _ => rfl
  have bGfa : Binds K fdGfa ["parts", "lot"] [] := FGfa.binds (ps := ["parts", "lot"]) fun _ _ _ _ _ _ us hl => match us, hl with | [_, _], _ => rfl
  have bFas : Binds K fdFas ["parts"] [] := FFas.binds (ps := ["parts"]) fun _ _ _ _ _ _ us hl => match us, hl with | [_], _ => rfl
  have bLif : Binds K fdLif ["thing"] [] := FLif.binds (ps := ["thing"]) fun _ _ _ _ _ _ us hl => match us, hl with | [_], _ => rfl
  have bNum : Binds K fdNum ["thing", "many"] [] := FNum.binds (ps := ["thing", "many"]) fun _ _ _ _ _ _ us hl => match us, hl with | [_, _], _ => rfl
  have bBdf : Binds K fdBdf ["hand"] [] := FBdf.binds (ps := ["hand"]) fun _ _ _ _ _ _ us hl => match us, hl with | [_], _ => rfl
  have bFlt : Binds K fdFlt ["clauses", "grounds"] [] := FFlt.binds (ps := ["clauses", "grounds"]) fun _ _ _ _ _ _ us hl => match us, hl with | [_, _], _ => rfl
  have bTol : Binds K fdTol ["clauses", "grounds"] [] := FTol.binds (ps := ["clauses", "grounds"]) fun _ _ _ _ _ _ us hl => match us, hl with | [_, _], _ => rfl
  have bSpo : Binds K fdSpo ["hand", "parts"] [] := FSpo.binds (ps := ["hand", "parts"]) fun _ _ _ _ _ _ us hl => match us, hl with | [_, _], _ => rfl
  have bBI : Binds K fdBI ["self", "part"] [] := FBI.binds (ps := ["self", "part"]) fun _ _ _ _ _ _ us hl => match us, hl with | [_, _], _ => rfl
  have bRI : Binds K fdRI ["self", "clauses", "grounds"] [] := FRI.binds (ps := ["self", "clauses", "grounds"]) fun _ _ _ _ _ _ us hl => match us, hl with | [_, _, _], _ => rfl
  have bRE : Binds K fdRE ["self", "other"] [] := FRE.binds (ps := ["self", "other"]) fun _ _ _ _ _ _ us hl => match us, hl with | [_, _], _ => rfl
  have bRF : Binds K fdRF ["self"] [] := FRF.binds (ps := ["self"]) fun _ _ _ _ _ _ us hl => match us, hl with | [_], _ => rfl
  have cB1 : Cal P w K mg base 1 "is_below" ["bound", "thing"] spBelow := calAt X G c FBel (ok_below (k := 0) FBel T) bBel
  have cW1 : Cal P w K mg base 1 "is_word" ["thing"] spWord := calAt X G c FWor (ok_word (k := 0) FWor T) bWor
  have cB2 : Cal P w K mg base 2 "is_below" ["bound", "thing"] spBelow := calAt X G c FBel (ok_below (k := 1) FBel T) bBel
  have cW2 : Cal P w K mg base 2 "is_word" ["thing"] spWord := calAt X G c FWor (ok_word (k := 1) FWor T) bWor
  have cF2 : Cal P w K mg base 2 "is_fact" ["thing"] spFact := calAt X G c FFac (ok_fact (k := 0) FFac T cB1 cW1) bFac
  have cF3 : Cal P w K mg base 3 "is_fact" ["thing"] spFact := calAt X G c FFac (ok_fact (k := 1) FFac T cB2 cW2) bFac
  have cT2 : Cal P w K mg base 2 "is_tuple_of" ["most", "thing"] spTupOf := calAt X G c FTup (ok_tupOf (k := 1) FTup T) bTup
  have cT3 : Cal P w K mg base 3 "is_tuple_of" ["most", "thing"] spTupOf := calAt X G c FTup (ok_tupOf (k := 2) FTup T) bTup
  have cT4 : Cal P w K mg base 4 "is_tuple_of" ["most", "thing"] spTupOf := calAt X G c FTup (ok_tupOf (k := 3) FTup T) bTup
  have cS3 : Cal P w K mg base 3 "is_facts" ["most", "thing"] spFacts := calAt X G c FFcs (ok_facts (k := 0) FFcs T cT2 cF2) bFcs
  have cS4 : Cal P w K mg base 4 "is_facts" ["most", "thing"] spFacts := calAt X G c FFcs (ok_facts (k := 1) FFcs T cT3 cF3) bFcs
  have cC4 : Cal P w K mg base 4 "is_clause" ["thing"] spClause := calAt X G c FCla (ok_clause (k := 0) FCla T cT3 cF3 cS3) bCla
  have N : BadC P w K mg base (ga K "BadRule") := ⟨m.x, m.no, _, fdBI, m.i, m.t, ok_bad FBI m.x.o m.no, bBI, gloM X G c, ga K "PostError", gloM X G c, freeM X G c, m.kP, m.kV, m.te⟩
  have R : MkRu P w K mg base 5 (ga K "Rule") (ga K "BadRule") := ⟨_, fdRI, mkr_ok (restM c 8), ok_rule (k := 0) FRI T rc N cT4 cC4 cS4, gloM X G c, bRI⟩
  have eR : EqR P w K mg base 1 (ga K "Rule") := ⟨_, fdRE, ok_eq (k := 0) FRE T rc m.ri (gloM X G c), m.hs, m.hf, bRE, m.nf, m.nt, m.kt⟩
  have mF : Met P w K mg base 1 (ga K "Rule") "facts" ["self"] (spFacR (ga K "Rule")) := ⟨_, fdRF, rc.cls, meth_ok (restM c 9), ok_facR (k := 0) FRF T rc, bRF⟩
  have cTo7 : Cal P w K mg base 7 "_law_rule_told" ["clauses", "grounds"] (spTold (ga K "Rule") (ga K "BadRule")) := calAt X G c FTol (ok_told (k := 0) FTol T N R) bTol
  have cN1 : Cal P w K mg base 1 "_law_is_number" ["thing", "many"] spNum := calAt X G c FNum (ok_num (k := 0) FNum T) bNum
  have cLi2 : Cal P w K mg base 2 "_law_is_fact" ["thing"] spFact := calAt X G c FLif (ok_lif (k := 0) FLif T cN1) bLif
  have cFa3 : Cal P w K mg base 3 "_law_rule_fault" ["clauses", "grounds"] spFault := calAt X G c FFlt (ok_fault (k := 0) FFlt T cLi2) bFlt
  have cD1 : Cal P w K mg base 1 "_law_draw" ["hand", "many"] spDraw := calAt X G c FDra (ok_draw (k := 0) FDra T) bDra
  have cD2 : Cal P w K mg base 2 "_law_draw" ["hand", "many"] spDraw := calAt X G c FDra (ok_draw (k := 1) FDra T) bDra
  have cD3 : Cal P w K mg base 3 "_law_draw" ["hand", "many"] spDraw := calAt X G c FDra (ok_draw (k := 2) FDra T) bDra
  have cD4 : Cal P w K mg base 4 "_law_draw" ["hand", "many"] spDraw := calAt X G c FDra (ok_draw (k := 3) FDra T) bDra
  have cA2 : Cal P w K mg base 2 "_law_any" ["hand", "items"] spAny := calAt X G c FAny (ok_any (k := 0) FAny T cD1) bAny
  have cA3 : Cal P w K mg base 3 "_law_any" ["hand", "items"] spAny := calAt X G c FAny (ok_any (k := 1) FAny T cD2) bAny
  have cA4 : Cal P w K mg base 4 "_law_any" ["hand", "items"] spAny := calAt X G c FAny (ok_any (k := 2) FAny T cD3) bAny
  have cNe3 : Cal P w K mg base 3 "_law_nested" ["hand"] spNest := calAt X G c FNes (ok_nest (k := 0) FNes T cA2) bNes
  have cNe4 : Cal P w K mg base 4 "_law_nested" ["hand"] spNest := calAt X G c FNes (ok_nest (k := 1) FNes T cA3) bNes
  have cBd4 : Cal P w K mg base 4 "_law_bad_fact" ["hand"] spNest := calAt X G c FBdf (ok_badF (k := 0) FBdf T cA3 cNe3) bBdf
  have cSp5 : Cal P w K mg base 5 "_law_spoilt" ["hand", "parts"] spSpoilt := calAt X G c FSpo (ok_spoilt (k := 0) FSpo T cD4 cA4 cBd4 cNe4) bSpo
  have cH1 : Cal P w K mg base 1 "_law_hand" ["script"] (spHand K) := calAt X G c FHan (ok_hand (k := 0) FHan T) bHan
  have cLf3 : Cal P w K mg base 3 "_law_fact" ["hand"] spLfact := calAt X G c FLfa (ok_lfact (k := 0) FLfa T cD2 cA2) bLfa
  have cP4 : Cal P w K mg base 4 "_law_pool" ["hand", "many"] spPool := calAt X G c FPoo (ok_pool (k := 0) FPoo T cLf3) bPoo
  have cPa5 : Cal P w K mg base 5 "_law_parts" ["hand", "most", "grounds"] spParts := calAt X G c FPar (ok_parts (k := 0) FPar T cD4 cA4 cP4) bPar
  have cG1 : Cal P w K mg base 1 "_law_ground_facts" ["parts", "lot"] spGf := calAt X G c FGfa (ok_gf (k := 0) FGfa T) bGfa
  have cFs2 : Cal P w K mg base 2 "_law_facts" ["parts"] spFacs := calAt X G c FFas (ok_facs (k := 0) FFas T cG1) bFas
  have cI0 : Cal P w K mg base 1 "_law_is" ["given", "due"] (spIsN 0) := calAt X G c FIs (ok_isA (k := 0) FIs T) bIs
  have cI1 : Cal P w K mg base 2 "_law_is" ["given", "due"] (spIsN 1) := calAt X G c FIs (ok_isS (k := 0) FIs T cI0) bIs
  have cI2 : Cal P w K mg base 3 "_law_is" ["given", "due"] (spIsN 2) := calAt X G c FIs (ok_isS (k := 1) FIs T cI1) bIs
  have cI3 : Cal P w K mg base 4 "_law_is" ["given", "due"] (spIsN 3) := calAt X G c FIs (ok_isS (k := 2) FIs T cI2) bIs
  have cI4 : Cal P w K mg base 5 "_law_is" ["given", "due"] (spIsN 4) := calAt X G c FIs (ok_isS (k := 3) FIs T cI3) bIs
  have cI5 : Cal P w K mg base 6 "_law_is" ["given", "due"] (spIsN 5) := calAt X G c FIs (ok_isS (k := 4) FIs T cI4) bIs
  exact ok_law (k := 0) FLaw T rc m.ri R eR mF cH1 cD1 cPa5 cTo7 cI0 cI2 cI5 cFs2 cSp5 cFa3
end
end L2.My
end
set_option Elab.async false
set_option linter.all false
set_option maxRecDepth 100000
set_option maxHeartbeats 0
open PySem PySem.W PySem.Calls PyProof.Rows
theorem PySem.Challenge.cw_strangerspost_k50_whole_rules_judged_holds : PySem.Challenge.rw_strangerspost_k50_whole_rules_judged.Holds := by
  w_on; o_law
  refine HandSHeadRun.head_any (r := OpenLaw.row PySem.Challenge.rw_strangerspost_k50_whole_rules_judged) (q := view (OpenLaw.row PySem.Challenge.rw_strangerspost_k50_whole_rules_judged).prog [37]) (H := L2.My.hkK) (ob := L2.My.obK) (M := 12000) (loose := L2.My.looA ++ L2.My.looB) (d := HandSHeadRun.topDef (OpenLaw.row PySem.Challenge.rw_strangerspost_k50_whole_rules_judged).prog 37) (kwd := []) L2.My.obK_eq
    (by kernel_rfl) (fun s => by kernel_rfl) L2.My.run (by kernel_rfl) (by kernel_rfl) (by kernel_rfl) (by rfl) (by first | assumption | decide +kernel) (by decide +kernel) ⟨rfl, rfl, rfl, rfl, rfl, by decide +kernel⟩ ?hw ?hc
  case hw => w_witness2
  case hc =>
    refine LamX.walk_ofTsE (l := PySem.Challenge.rw_strangerspost_k50_whole_rules_judged) (n := 63) (k := 8) (x := "script") (CX := fun _ => L2.CX0) rfl (by decide) (by kernel_rfl) ⟨rfl, by decide, by decide⟩ ?F (fun _ _ _ _ _ z => z)
    intro w mg fa h Y G hmg0
    obtain ⟨K, KX, c⟩ := Y
    have hmg : mg ("law" : PySem.Str) = some (.ref fa) := by
      have e : (HandSHeadRun.topDef (OpenLaw.row PySem.Challenge.rw_strangerspost_k50_whole_rules_judged).prog 37).name = ("law" : PySem.Str) := by kernel_rfl
      rw [← e]
      exact hmg0
    obtain ⟨fd, hb, hF⟩ := L2.My.facts (P := (PySem.Challenge.rw_strangerspost_k50_whole_rules_judged).prog) (w := w) KX G hmg c
    refine ⟨K, KX, fd, [], L2.My.spLaw K, (fun p hp => absurd hp (by simp)), (fun p hp => absurd hp (by simp)), (fun p hp => absurd hp (by simp)), hb, fun H a ns hl _ hH hS => ⟨a, ns, rfl, hS, fun _ => rfl⟩, hF⟩

