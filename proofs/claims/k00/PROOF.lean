import PyProof.Rows.All
import Wide.All
import OpenK.AllK
import Wide.FinOn
import KE.KExcIs
import HandS.ForMost
import HandS.Exc
import HandS.ExcInit
import HandS.IsInst
import HandS.Style
import HandS.HeadHook4
import HandS.Walk
import KE.KEqDict
import HandS.HeadEnd
import HandS.Head2
import PySem.Challenge.RW_strangerspost_k00_errors_and_their_field
set_option Elab.async false
set_option linter.all false
set_option maxRecDepth 100000
set_option maxHeartbeats 4000000
/-! Own exceptions as values: made by an __init__ that is walked as a def, asked by isinstance, their fields read. -/
namespace L2.My
open PySem PySem.Spec PyProof.Rows

/-- the facts of an own exception class, beside OexC -/
structure XC (K : PySem.W.Frag) (C : Addr) : Prop where
  o : OexC K C
  hga : PySem.W.findIn K (.ref C) "__getattribute__" = some (some (.builtin "BaseException.__getattribute__"))
  hgt : PySem.W.findIn K (.ref C) "__getattr__" = some none
  ha : PySem.W.findIn K (.ref C) "__class__" = some (some (.builtin "object.__class__"))
  hn : PySem.W.specialIn K (.builtin "object.__class__") "__get__" = some (some (.builtin "getset_descriptor.__get__"))
  ht : PySem.W.takesIn K (.builtin "object.__class__") = some true
  hm : PySem.W.mroIn K C (.type "object") = some true
  hd : PySem.W.hasDictIn K C = true

/-- C(e, ..): a new exception object, then __init__; it stays tracked -/
def tMkX (C : Addr) (sp : Sp) (dvs : List V) (ta : TA) : TE := fun σ H Q => ta σ H fun vs H1 => vs.length ≤ 1000 ∧ ∀ a, H1 a = none → sp (.ref a :: (vs ++ dvs)) (upd H1 a (exo a C none))
  (fun v H2 => v = .non ∧ Q (.ref a) H2) (fun _ _ _ => False)
section
variable {X : Cx} {CX : CXT} {k : Nat} {fI C : Addr} {fd : FuncData} {ps : List Str} {sp : Sp} {dvs : List V} {ds : List Value} {x : Str} {p pos : Pos} {e : Expr} {es : List Expr} {ta : TA}
theorem run_mkx {pins : List (Addr × Obj)} {σ : St} {H : Hp} {s : Shared} {Q : VK} {us : List Value} {vs : List V} (T : OexC X.K C) (iC : PySem.W.findIn X.K (.ref C) "__init__" = some (some (.ref fI))) (tI : PySem.W.typeIn X.K (.ref fI) = some (.type "function"))
    (F1 : FnOk X.prog X.w X.K X.mg X.base CX k fI fd ps sp) (hr : Room (k + 1) X.A) (hb : Binds X.K fd ps ds) (hd : Vals dvs ds) (hx : Passes CX X (fun _ _ _ => False)) (I : Inv X pins σ H s) (r1 : Vals vs us) (hz : vs.length ≤ 1000)
    (h : ∀ a, H a = none → sp (.ref a :: (vs ++ dvs)) (upd H a (exo a C none)) (fun v H2 => v = .non ∧ Q (.ref a) H2) (fun _ _ _ => False)) :
    wpAny (model X.prog X.w) X.A (call (.ref C) us) (EP X pins σ Q) X.xe s := by
  obtain ⟨nm, q, N, bs, bm, sn, sub, ab, col, dd, k0, k1, k2, k3, k5, hC, hbm⟩ := T.cls
  obtain ⟨hp, g, dr, tk, os⟩ := s
  have hsz : hp.objs.size ≤ hp.objs.size + 1 := Nat.le_succ _
  have hn : H (hp.objs.size + 1) = none := I.hok.fresh hsz
  have hq := h (hp.objs.size + 1) hn
  have kk : ∀ b o, hp.get? b = some o → ((hp.push (PySem.W.kdv_tup us)).push (PySem.HandSPX.excO C hp.objs.size)).get? b = some o := fun b o e => Heap.get?_push_of_some _ (Heap.get?_push_of_some _ e)
  have hget : ((hp.push (PySem.W.kdv_tup us)).push (PySem.HandSPX.excO C hp.objs.size)).get? (hp.objs.size + 1) = some (PySem.HandSPX.excO C hp.objs.size) := by heap_get
  have I2 : Inv X pins σ (upd H (hp.objs.size + 1) (exo (hp.objs.size + 1) C none)) ⟨(hp.push (PySem.W.kdv_tup us)).push (PySem.HandSPX.excO C hp.objs.size), g, dr, tk, os⟩ :=
    I.laid (t' := tk) (a := hp.objs.size + 1) (o := exo (hp.objs.size + 1) C none) (h' := (hp.push (PySem.W.kdv_tup us)).push (PySem.HandSPX.excO C hp.objs.size)) kk hsz (exo_ok hget)
  have r2 : Vals (V.ref (hp.objs.size + 1) :: (vs ++ dvs)) (Value.ref (hp.objs.size + 1) :: (us ++ ds)) := .cons rfl (r1.append hd)
  have hl : (Value.ref (hp.objs.size + 1) :: us ++ ds).length = ps.length := by
    have e := r2.length
    rw [F1.len _ _ _ _ hq] at e
    exact e.symm
  have hus : us.length ≤ sizeLine := by
    rw [← Paired.length r1, sizeLine_eq]
    omega
  refine wpAny_call (PySem.HandSPX.call_own F.excBase_ValueError (fun Y => PySem.HandSPX.refsVE_contains Y bm hbm) (I.kIn _ _ hC) (PySem.W.looks_findIn I.kIn iC) (fun self => PySem.W.bind_fn I.kIn self tI) hus
    (codeAny_mono (F1.run _ X.stack _ _ ⟨Value.ref (hp.objs.size + 1) :: us, []⟩ (Value.ref (hp.objs.size + 1) :: (us ++ ds)) _ _ (fun _ _ _ => False) (hr.make C us []) (I2.env0.make C us []) (hb _ (Value.ref (hp.objs.size + 1) :: us) I2.kIn hl) r2 hq) fun r s' hq' => ?_))
  cases r with
  | error er => exact hx pins σ _ _ er s' I2 hq'
  | ok fl =>
    cases fl with
    | ret u =>
      obtain ⟨v, H', I3, rv, ev, q3⟩ := I2.after hq'
      subst ev
      exact ⟨rv, ⟨V.ref (hp.objs.size + 1), H', I3, rfl, q3⟩⟩
    | next => exact False.elim hq'
    | brk => exact False.elim hq'
    | cont => exact False.elim hq'
theorem pe_mkx (T : OexC X.K C) (iC : PySem.W.findIn X.K (.ref C) "__init__" = some (some (.ref fI))) (tI : PySem.W.typeIn X.K (.ref fI) = some (.type "function"))
    (F1 : FnOk X.prog X.w X.K X.mg X.base CX k fI fd ps sp) (hr : Room (k + 1) X.A) (hb : Binds X.K fd ps ds) (hd : Vals dvs ds) (hx : Passes CX X (fun _ _ _ => False)) (hg : Gl X x) (hm : X.mg x = some (.ref C)) (ha : PA X (e :: es) ta)
    (hdb : (x == ("__debug__" : Str)) = false := by decide) (he : starEach (e :: es) X.env = (false, eval e X.env) :: starEach es X.env := by rfl) (hpl : (backTo pos (starEach es X.env)).any (·.1) = false := by rfl) :
    PE X (.Call (.Name x p) (e :: es) [] pos) (tMkX C sp dvs ta) := by
  refine ⟨fun pins s σ H Q I h => ?_⟩
  refine wpAny_Call_Name_kw (ld_glob I hg hm ?_ hdb)
  refine PySem.W.callWith_K (h₀ := X.base) I.ok.mod.kin T.kC (thn (ha.run pos pins s σ H _ I h) fun us s1 ⟨vs, H1, I1, r1, hz, q1⟩ => ⟨I1.kIn, ?_⟩) he hpl
  exact run_mkx T iC tI F1 hr hb hd hx I1 r1 hz q1
theorem pe_mkx0 (T : OexC X.K C) (iC : PySem.W.findIn X.K (.ref C) "__init__" = some (some (.ref fI))) (tI : PySem.W.typeIn X.K (.ref fI) = some (.type "function"))
    (F1 : FnOk X.prog X.w X.K X.mg X.base CX k fI fd ps sp) (hr : Room (k + 1) X.A) (hb : Binds X.K fd ps ds) (hd : Vals dvs ds) (hx : Passes CX X (fun _ _ _ => False)) (hg : Gl X x) (hm : X.mg x = some (.ref C))
    (hdb : (x == ("__debug__" : Str)) = false := by decide) :
    PE X (.Call (.Name x p) [] [] pos) (tMkX C sp dvs tNil) := by
  refine ⟨fun pins s σ H Q I h => ?_⟩
  refine wpAny_Call_Name_kw (ld_glob I hg hm ?_ hdb)
  exact PySem.W.callWith_K0 I.kIn T.kC (run_mkx (us := []) T iC tI F1 hr hb hd hx I .nil h.1 h.2)
end

/-! ### an exception that stands: with its dict, or with none -/
/-- at a stands an exception of the class at C, its dict (if any) tracked -/
def ErrAt (H : Hp) (a C : Addr) : Prop := ∃ d : Option Addr, H a = some (exo a C d) ∧ ∀ dx, d = some dx → ∃ fs, H dx = some (exd dx fs)
theorem ErrAt.same {H H' : Hp} {a C : Addr} (h : ErrAt H a C) (s : Same H H') : ErrAt H' a C := by
  obtain ⟨d, h1, h2⟩ := h
  exact ⟨d, s _ _ h1, fun dx e => by
    obtain ⟨fs, q⟩ := h2 dx e
    exact ⟨fs, s _ _ q⟩⟩
section
variable {X : Cx} {pins : List (Addr × Obj)} {σ : St} {H : Hp} {s : Shared}
theorem XC.cl {K : PySem.W.Frag} {C : Addr} (T : XC K C) : (PySem.W.clsIn K C).isSome = true := by
  obtain ⟨cd, h, _⟩ := PySem.W.any_some T.hd
  rw [h]
  rfl
theorem ErrAt.inst {a C : Addr} (I : Inv X pins σ H s) (h : ErrAt H a C) : ∃ ox od, PySem.W.InstAt s.heap a ox C od := by
  obtain ⟨d, h1, h2⟩ := h
  obtain ⟨t1, ho⟩ := exo_at I.hok h1
  cases d with
  | none => exact ⟨_, none, ho, rfl, rfl, trivial⟩
  | some dx =>
    obtain ⟨fs, q⟩ := h2 dx rfl
    obtain ⟨mA, ⟨oD, _, _, hoD, _⟩, _⟩ := exd_at I.hok q
    exact ⟨_, some oD, ho, rfl, rfl, hoD⟩
/-- isinstance(e, c) of a standing exception -/
def rIsX (K : PySem.W.Frag) : List V → Hp → VK → Prop := fun xs H Q => ∃ (a C : Addr) (c : V) (u : Value) (b : Bool), xs = [.ref a, c] ∧ ErrAt H a C ∧ XC K C ∧ ClsV c u ∧ PySem.W.kitOne K (.ref C) u = some b ∧ Q (.bl b) H
theorem call_isX : CallR X (.builtin "isinstance") (rIsX X.K) := by
  intro pins s σ H xs us Q I r h
  obtain ⟨a, C, c, u, b, rfl, hE, T, k, e, q⟩ := h
  obtain ⟨u1, u2, rfl, r1, r2⟩ := vals2 r
  have e2 := k.eq r2
  subst e2
  cases (show u1 = Value.ref a from r1)
  obtain ⟨ox, od, J⟩ := hE.inst I
  exact PySem.W.kia_one (PySem.W.kitx_exc T.cl T.hga T.hgt T.o.exC T.ha T.hn T.ht T.hm) I.kIn J e (fun z => nomatch z) fun tk => ⟨.bl b, H, I.tok tk, rfl, q⟩
/-- e.f of a standing exception -/
def tXfv (K : PySem.W.Frag) (f : Str) (te : TE) : TE := fun σ H Q => te σ H fun x H1 => ∃ (a C dx : Addr) (fs : List (Str × V)) (v : V), x = .ref a ∧ XC K C ∧ PySem.W.findIn K (.ref C) f = some none ∧ H1 a = some (exo a C (some dx)) ∧ H1 dx = some (exd dx fs) ∧ fs.lookup f = some v ∧ Q v H1
theorem pe_xfv {e : Expr} {te : TE} {pos : Pos} {n : Str} (he : PE X e te) (hb : attributeBase e n X.env (eval e X.env) = eval e X.env := by rfl) : PE X (.Attribute e n pos) (tXfv X.K n te) := by
  refine ⟨fun pins s σ H Q I h => ?_⟩
  refine attr_of hb (thn (he.run pins s σ H _ I h) fun u s1 hh => ?_)
  obtain ⟨x, H1, I1, rx, a, C, dx, fs, v, ex, T, hno, ea, ed, l, q⟩ := hh
  subst ex
  obtain rfl : u = Value.ref a := rx
  obtain ⟨t1, ho⟩ := exo_at I1.hok ea
  obtain ⟨mA, hns, hr⟩ := exd_at I1.hok ed
  obtain ⟨od, hod, hl⟩ := lookIn_ns hns
  obtain ⟨u, hu, ru⟩ := RelO.some_of (v := v) (o := mA n) (by rw [← l]; exact hr n)
  have J : PySem.W.InstAt s1.heap a _ C (some od) := ⟨ho, rfl, rfl, hod⟩
  exact HandSPX.exc_get I1.kIn J T.hga T.hgt T.o.exC (PySem.W.findObj_own T.hd hno rfl (by rw [hl, hu])) (handed_of ru) ⟨v, H1, I1.tok _, ru, q⟩
end
end L2.My

set_option Elab.async false
set_option linter.all false
set_option maxRecDepth 100000
set_option maxHeartbeats 4000000
namespace L2.My
open PySem PySem.Spec PyProof.Rows
def top (i : Nat) : Stmt := PySem.Challenge.pw_strangerspost_k00_errors_and_their_field.main.body.getD i (.Pass ⟨0, 0, 0, 0⟩)
abbrev sBag : Stmt := top 35
abbrev sPick : Stmt := top 36
abbrev sSome : Stmt := top 37
/-! ### heaps -/
theorem same_upd {H : Hp} {p : Addr} {o : HO} (h : H p = none) : Same H (upd H p o) := fun b x e => by
  rw [upd_ne (ne_of_none e h)]
  exact e
theorem keep_ne {H : Hp} {p : Addr} {o : HO} {b : Addr} {x : HO} (h : H p = none) (e : H b = some x) : (upd H p o) b = some x := same_upd h _ _ e
theorem cutTo (xs : List V) (n : Nat) : cutV xs none (some (n : Int)) = xs.take n := by
  unfold cutV
  rw [HT.sIx_none, HT.sIx_nat]
  rw [List.drop_zero, Nat.sub_zero]
  rw [← List.take_eq_take_min]
/-- the bag: at b a list of the list at g (numbers not below 0), the seed, how many, the count -/
structure BagAt (H : Hp) (b g : Addr) : Prop where
  ne : g ≠ b
  at_ : ∃ (ns : List Int) (sd n c : Int), H b = some (.lst [.ref g, .int sd, .int n, .int c]) ∧ H g = some (.lst (ns.map .int)) ∧ ∀ x ∈ ns, 0 ≤ x
/-- all but the bag is as it was -/
def But (b g : Addr) (H H' : Hp) : Prop := ∀ p, p ≠ b → p ≠ g → H' p = H p
theorem But.refl {b g : Addr} {H : Hp} : But b g H H := fun _ _ _ => rfl
theorem But.trans {b g : Addr} {H H1 H2 : Hp} (x : But b g H H1) (y : But b g H1 H2) : But b g H H2 := fun p h1 h2 => (y p h1 h2).trans (x p h1 h2)
structure BagTxt (mg : Str → Option Value) : Prop where
  int_ : mg "int" = none
  abs_ : mg "abs" = none
  len_ : mg "len" = none
/-! ### the promises -/
def spBag (K : PySem.W.Frag) : Sp := fun vs H Q _ => ∃ (a : Addr) (ns : List Int), vs = [.ref a] ∧ SqL K H a (ns.map V.int) ∧ ns.length ≤ 1000 ∧ ∀ H' b g, Same H H' → H b = none → H g = none → BagAt H' b g → Q (.ref b) H'
def spPick : Sp := fun vs H Q _ => ∃ (b g : Addr) (m : Int), vs = [.ref b, .int m] ∧ BagAt H b g ∧ 0 < m ∧ m < 1073741824 ∧ ∀ H' r, But b g H H' → BagAt H' b g → 0 ≤ r → r < m → Q (.int r) H'
def spSome (K : PySem.W.Frag) : Sp := fun vs H Q _ => ∃ (b g t : Addr) (xs : List V), vs = [.ref b, .ref t] ∧ BagAt H b g ∧ SqL K H t xs ∧ t ≠ b ∧ t ≠ g ∧ xs ≠ [] ∧ xs.length < 1073741824 ∧ ∀ H' v, But b g H H' → BagAt H' b g → v ∈ xs → Q v H'
section
variable {P : Program} {w : World} {K : PySem.W.Frag} {mg : Str → Option Value} {base : Heap}
theorem scBag : FnScope ["script", "cell", "great", "seed"] ["script"] (defScope sBag) := ⟨rfl, rfl, rfl, by decide +kernel, rfl, by decide +kernel, by decide +kernel⟩
theorem ok_bag {f : Addr} {fd : FuncData} {k : Nat} (F : Fun K "_law_bag" "_law_bag" sBag f fd) (T : BagTxt mg) : FnOk P w K mg base CX0 (k + 1) f fd ["script"] (spBag K) := by
  refine F.ok scBag (fun vs H Q E h => ?_) (fun cdv A outer s H vs Q E hr h => ?_)
  · obtain ⟨a, ns, rfl, _⟩ := h
    rfl
  · obtain ⟨a, ns, rfl, hS, hlen, q⟩ := h
    refine ⟨_, pss_cons (ps_setLc (own := [("cell", 1)]) (i := 2) (g := gName 1) rfl scBag.nd rfl rfl (sw_true rfl rfl rfl (by decide +kernel)) (pi_list (pe_slice sl_list (pv 0) po_none (po_some pe_int)))
        (blkOk_by (N := ["script", "cell", "great", "seed"]) (sc := defScope sBag) (by decide +kernel)) (fun _ _ _ _ _ => pg_name (i := 1) scBag.nd rfl (Or.inl rfl))
        (fun _ _ _ _ _ => pts_one (pt_cmpR op_ge (pe_callB call_abs (by rfl) T.abs_ (by decide +kernel) (pa_cons (pe_callTy call_int1 (by rfl) T.int_ (by decide +kernel) (pa_cons (pv 1) pa_nil)) pa_nil)) (pe_op op_pow pe_int pe_int) (nomark _)))
        (fun _ _ _ _ _ => pe_callB call_abs (by rfl) T.abs_ (by decide +kernel) (pa_cons (pe_callTy call_int1 (by rfl) T.int_ (by decide +kernel) (pa_cons (pv 1) pa_nil)) pa_nil)))
      (pss_cons (ps_set (i := 3) scBag.nd rfl (Or.inl rfl) pe_int)
      (pss_cons (ps_for PassesOwn.never rfl (pi_list (pe_slice sl_list (pv 0) po_none (po_some pe_int))) (pg_name (i := 1) scBag.nd rfl (Or.inl rfl))
        (pss_one (ps_set (i := 3) scBag.nd rfl (Or.inl rfl) (pe_op op_mod (pe_callTy call_int1 (by rfl) T.int_ (by decide +kernel)
          (pa_cons (pe_op op_add (pe_op op_add (pe_op op_add (pe_op op_mul (pv 3) pe_int) (pe_op op_mul (pe_callB call_abs (by rfl) T.abs_ (by decide +kernel) (pa_cons (pe_callTy call_int1 (by rfl) T.int_ (by decide +kernel) (pa_cons (pv 1) pa_nil)) pa_nil)) pe_int))
            (pe_callTy call_int1 (by rfl) T.int_ (by decide +kernel) (pa_cons (pe_cmpR op_lt (pe_callTy call_int1 (by rfl) T.int_ (by decide +kernel) (pa_cons (pv 1) pa_nil)) pe_int (nomark _)) pa_nil))) pe_int) pa_nil)) pe_int))))
      (pss_one (ps_ret (pe_lst (pa_cons (pv 2) (pa_cons (pv 3) (pa_cons (pe_callB call_len_seq (by rfl) T.len_ PySem.boot_len (pa_cons (pv 0) pa_nil)) (pa_cons pe_int pa_nil))))))))), ?_⟩
    refine ⟨.ref a, rfl, 63, rfl, a, ns.map V.int, rfl, hS, fun c nc => ?_⟩
    have ec : cutV (ns.map V.int) none (some 63) = (ns.take 63).map V.int := by
      rw [List.map_take]
      exact cutTo _ 63
    rw [ec]
    refine ⟨c, rfl, ⟨_, SqL.of upd_same⟩, fun D hD => ?_⟩
    have s1 : Same H (upd H c (.lst ((ns.take 63).map V.int))) := same_upd nc
    have ncD : c ≠ D := fun e => by
      rw [← e, upd_same] at hD
      cases hD
    have hD0 : H D = none := s1.free hD
    refine lc_list (K := K) (a := c) (xs := (ns.take 63).map V.int) (fun i H' => ∃ out : List Int, Same H H' ∧ H' c = some (.lst ((ns.take 63).map V.int)) ∧ H' D = some (.lst (out.map V.int)) ∧ (∀ x ∈ out, 0 ≤ x) ∧ out.length ≤ i)
      ⟨[], s1.trans (same_upd hD), by rw [upd_ne ncD, upd_same], upd_same, fun x hx => (by cases hx), Nat.le_refl _⟩ (fun i H' _ ⟨_, _, hc, _⟩ => .of hc) ?_ ?_
    · rintro i x H' hi ⟨out, sm, hc, hd, hp, hl⟩
      obtain ⟨n, rfl⟩ : ∃ n, x = V.int n := by
        rw [List.getElem?_map] at hi
        cases e : (ns.take 63)[i]? with
        | none =>
          rw [e] at hi
          cases hi
        | some u =>
          rw [e] at hi
          exact ⟨u, (Option.some.inj hi).symm⟩
      have hi1 : i < ns.length := by
        have q := (List.getElem?_eq_some_iff.mp hi).1
        rw [List.length_map, List.length_take] at q
        omega
      refine ⟨rfl, ?_⟩
      refine ⟨_, rfl, .inl ⟨n, rfl, n, rfl, ?_⟩⟩
      refine ⟨_, _, rfl, rfl, ⟨by decide, by decide, by decide⟩, _, _, rfl, rfl, _, rfl, ?_⟩
      refine ite2 (fun h => ?_) (fun _ => ?_)
      · refine ⟨_, rfl, .inl ⟨n, rfl, n, rfl, ?_⟩⟩
        refine ⟨_, hd, ?_, out ++ [if n < 0 then -n else n], fun b o e => ?_, ?_, ?_, ?_, ?_⟩
        · rw [List.length_map]
          exact small1000 (by omega)
        · rw [upd_ne (ne_of_none e hD0)]
          exact sm _ _ e
        · rw [upd_ne ncD]
          exact hc
        · rw [upd_same, List.map_append]
          rfl
        · intro y hy
          rcases List.mem_append.mp hy with hy | hy
          · exact hp y hy
          · have e : y = (if n < 0 then -n else n) := by simpa using hy
            rw [e]
            split <;> omega
        · rw [List.length_append]
          simp only [List.length_singleton]
          omega
      · exact ⟨out, sm, hc, hd, hp, by omega⟩
    · rintro H' ⟨out, sm, hc, hd, hp, hl⟩
      refine ⟨_, rfl, 63, rfl, a, ns.map V.int, rfl, sm.seq hS, fun c2 nc2 => ?_⟩
      rw [ec]
      refine ⟨c2, rfl, ⟨_, SqL.of upd_same⟩, ?_⟩
      have s2 : Same H' (upd H' c2 (.lst ((ns.take 63).map V.int))) := same_upd nc2
      refine for_list (K := K) (a := c2) (xs := (ns.take 63).map V.int) (fun i σ H2 => ∃ (v : Option V) (sd : Int), σ = [some (.ref a), v, some (.ref D), some (.int sd)] ∧ 0 ≤ sd ∧ sd < 2147483648 ∧ Same H H2 ∧ H2 c2 = some (.lst ((ns.take 63).map V.int)) ∧ H2 D = some (.lst (out.map V.int)))
        ⟨_, _, rfl, by decide, by decide, sm.trans s2, upd_same, s2 _ _ hd⟩ (fun i σ H' _ ⟨_, _, _, _, _, _, hc, _⟩ => .of hc) ?_ ?_
      · rintro i x σ H2 hi ⟨v, sd, rfl, h0, h1, sm2, hc2, hd2⟩
        obtain ⟨n, rfl⟩ : ∃ n, x = V.int n := by
          rw [List.getElem?_map] at hi
          cases e : (ns.take 63)[i]? with
          | none =>
            rw [e] at hi
            cases hi
          | some u =>
            rw [e] at hi
            exact ⟨u, (Option.some.inj hi).symm⟩
        refine ⟨_, rfl, _, _, rfl, rfl, .inr ⟨by decide, by decide⟩, ?_⟩
        refine ⟨_, rfl, .inl ⟨n, rfl, n, rfl, ?_⟩⟩
        refine ⟨_, _, rfl, rfl, .inr ⟨by decide, by decide⟩, _, _, rfl, rfl, ?_⟩
        refine ⟨_, rfl, .inl ⟨n, rfl, _, _, rfl, rfl, .inr ⟨_, rfl, ?_⟩⟩⟩
        refine ⟨_, _, rfl, rfl, _, _, rfl, rfl, .inl ⟨_, rfl, _, _, rfl, rfl, (by show (0 : Int) < 2147483629; decide), ?_⟩⟩
        refine ⟨_, _, rfl, ?_, ?_, sm2, hc2, hd2⟩
        · exact Int.emod_nonneg _ (by decide)
        · exact Int.lt_trans (Int.emod_lt_of_pos _ (by decide)) (by decide)
      · rintro σ H2 ⟨v, sd, rfl, h0, h1, sm2, hc2, hd2⟩
        refine ⟨_, rfl, _, rfl, _, rfl, a, _, rfl, .inl (sm2.seq hS), by show 4 ≤ sizeLine; decide, fun b nb => ?_⟩
        have nbD : D ≠ b := ne_of_none hd2 nb
        exact q _ b D (sm2.trans (same_upd nb)) (sm2.free nb) hD0 ⟨nbD, out, sd, _, 0, upd_same, by rw [upd_ne nbD]; exact hd2, hp⟩
theorem scPick : FnScope ["bag", "many", "number"] ["bag", "many"] (defScope sPick) := ⟨rfl, rfl, rfl, by decide +kernel, rfl, by decide +kernel, by decide +kernel⟩
theorem ixN_zero {n : Nat} (h : 0 < n) : ixN n 0 = some 0 := by
  unfold ixN
  rw [if_pos (by omega), if_pos (by omega)]
  rfl
theorem mod_in {x m : Int} (h : 0 < m) : 0 ≤ x % m ∧ x % m < m := ⟨Int.emod_nonneg _ (by omega), Int.emod_lt_of_pos _ h⟩
theorem ok_pick {f : Addr} {fd : FuncData} {k : Nat} (F : Fun K "_law_pick" "_law_pick" sPick f fd) (T : BagTxt mg) : FnOk P w K mg base CX0 (k + 1) f fd ["bag", "many"] spPick := by
  refine F.ok scPick (fun vs H Q E h => ?_) (fun cdv A outer s H vs Q E hr h => ?_)
  · obtain ⟨b, g, m, rfl, _⟩ := h
    rfl
  · obtain ⟨b, g, m, rfl, ⟨ngb, ns, sd, n, c, hb, hg, hp⟩, hm0, hm1, q⟩ := h
    refine ⟨_, pss_cons (ps_if (pt_cmpR op_eq (pe_ix ix_list (pv 0) pe_int (fun _ _ => rfl)) pe_int (nomark _)) (pss_one (ps_ret pe_int)) pss_nil)
      (pss_cons (ps_if (pt_cmpR op_gt (pe_callB call_len_seq (by rfl) T.len_ PySem.boot_len (pa_cons (pe_ix ix_list (pv 0) pe_int (fun _ _ => rfl)) pa_nil)) pe_int (nomark _))
        (pss_cons (ps_set (i := 2) scPick.nd rfl (Or.inl rfl) (pe_ix ix_list (pe_ix ix_list (pv 0) pe_int (fun _ _ => rfl)) pe_int (fun _ _ => rfl)))
        (pss_cons (ps_asg (pe_op op_fdiv (pv 2) (pv 1)) (pg_sub (pe_ix ix_list (pv 0) pe_int (fun _ _ => rfl)) pe_int set_list))
        (pss_cons (ps_if (pt_cmpR op_lt (pv 2) (pv 1) (nomark _)) (pss_one (ps_expr (pe_bm PySem.F.plainAttrs_list PySem.F.slot_list_pop PySem.F.type_list_pop mt_popAt (pe_ix ix_list (pv 0) pe_int (fun _ _ => rfl)) (pa_cons pe_int pa_nil)))) pss_nil)
        (pss_one (ps_ret (pe_op op_mod (pe_callTy call_int1 (by rfl) T.int_ (by decide +kernel) (pa_cons (pv 2) pa_nil)) (pv 1))))))) pss_nil)
      (pss_cons (ps_asg (pe_op op_add (pe_ix ix_list (pv 0) pe_int (fun _ _ => rfl)) pe_int) (pg_sub (pv 0) pe_int set_list))
      (pss_cons (ps_set (i := 2) scPick.nd rfl (Or.inl rfl) (pe_op op_mod (pe_callTy call_int1 (by rfl) T.int_ (by decide +kernel) (pa_cons
        (pe_op op_add (pe_op op_mul (pe_op op_add (pe_ix ix_list (pv 0) pe_int (fun _ _ => rfl)) (pe_op op_mul pe_int (pe_ix ix_list (pv 0) pe_int (fun _ _ => rfl)))) pe_int) pe_int) pa_nil)) pe_int))
      (pss_cons (ps_set (i := 2) scPick.nd rfl (Or.inl rfl) (pe_op op_mod (pe_callTy call_int1 (by rfl) T.int_ (by decide +kernel) (pa_cons
        (pe_op op_add (pe_op op_mul (pv 2) (pe_op op_add (pe_op op_fdiv (pv 2) pe_int) pe_int)) (pe_ix ix_list (pv 0) pe_int (fun _ _ => rfl))) pa_nil)) pe_int))
      (pss_cons (ps_asg (pe_op op_mod (pe_callTy call_int1 (by rfl) T.int_ (by decide +kernel) (pa_cons (pe_op op_add (pe_ix ix_list (pv 0) pe_int (fun _ _ => rfl)) (pv 2)) pa_nil)) pe_int) (pg_sub (pv 0) pe_int set_list))
      (pss_one (ps_ret (pe_op op_mod (pe_callTy call_int1 (by rfl) T.int_ (by decide +kernel) (pa_cons (pe_op op_fdiv (pv 2) pe_int) pa_nil)) (pv 1))))))))), ?_⟩
    have a0 : atI ([.ref g, .int sd, .int n, .int c] : List V) 0 = some (.ref g) := rfl
    have a1 : atI ([.ref g, .int sd, .int n, .int c] : List V) 1 = some (.int sd) := rfl
    have a2 : atI ([.ref g, .int sd, .int n, .int c] : List V) 2 = some (.int n) := rfl
    have a3 : atI ([.ref g, .int sd, .int n, .int c] : List V) 3 = some (.int c) := rfl
    refine ⟨_, rfl, b, _, _, _, rfl, rfl, .of hb, a2, rfl, _, rfl, ?_⟩
    refine ite2 (fun _ => ?_) (fun _ => ?_)
    · exact q H 0 .refl ⟨ngb, ns, sd, n, c, hb, hg, hp⟩ (by omega) hm0
    refine ⟨_, rfl, b, _, _, _, rfl, rfl, .of hb, a0, g, _, rfl, .inl (.of hg), _, _, rfl, rfl, _, rfl, ?_⟩
    refine ite2 (fun hlen => ?_) (fun _ => ?_)
    · have hl : 0 < ns.length := by
        have z := of_decide_eq_true hlen
        rw [List.length_map] at z
        omega
      obtain ⟨x, rest, rfl⟩ : ∃ x rest, ns = x :: rest := by
        cases ns with
        | nil => simp at hl
        | cons x r => exact ⟨x, r, rfl⟩
      have hx : 0 ≤ x := hp x List.mem_cons_self
      refine ⟨_, rfl, b, _, _, _, rfl, rfl, .of hb, a0, g, _, _, .int x, rfl, rfl, .of hg, atI_nat (j := 0) rfl, ?_⟩
      refine ⟨_, rfl, _, rfl, _, _, rfl, rfl, ⟨hm0, hm1⟩, ?_⟩
      refine ⟨_, rfl, b, _, _, _, rfl, rfl, .of hb, a0, g, _, _, 0, rfl, rfl, hg, ixN_zero (by simp), ?_⟩
      have e1 : ((x :: rest).map V.int).set 0 (.int (x / m)) = ((x / m) :: rest).map V.int := rfl
      rw [e1]
      have hb1 : (upd H g (.lst ((x / m :: rest).map V.int))) b = some (.lst [.ref g, .int sd, .int n, .int c]) := by
        rw [upd_ne ngb.symm]
        exact hb
      have hp1 : ∀ y ∈ x / m :: rest, 0 ≤ y := fun y hy => by
        rcases List.mem_cons.mp hy with e | hy
        · rw [e]
          exact Int.ediv_nonneg hx (by omega)
        · exact hp y (List.mem_cons_of_mem _ hy)
      have b1 : But b g H (upd H g (.lst ((x / m :: rest).map V.int))) := fun p _ h2 => upd_ne h2
      refine ⟨_, rfl, _, rfl, _, _, rfl, rfl, _, rfl, ?_⟩
      refine ite2 (fun _ => ?_) (fun _ => ?_)
      · refine ⟨_, rfl, b, _, _, _, rfl, rfl, .of hb1, a0, .inl ⟨rfl, _, .of upd_same⟩, g, _, _, 0, .int (x / m), rfl, rfl, upd_same, by decide, by decide, PySem.seqIndex_of (by decide) (by rw [List.length_map, List.length_cons]; omega), rfl, ?_⟩
        rw [upd_upd]
        refine ⟨_, rfl, .inl ⟨x, rfl, _, rfl, _, _, rfl, rfl, hm0, ?_⟩⟩
        refine q _ _ (fun p _ h2 => upd_ne h2) ⟨ngb, rest, sd, n, c, ?_, upd_same, fun y hy => hp y (List.mem_cons_of_mem _ hy)⟩ (mod_in hm0).1 (mod_in hm0).2
        rw [upd_ne ngb.symm]
        exact hb
      · refine ⟨_, rfl, .inl ⟨x, rfl, _, rfl, _, _, rfl, rfl, hm0, ?_⟩⟩
        exact q _ _ b1 ⟨ngb, _, sd, n, c, hb1, upd_same, hp1⟩ (mod_in hm0).1 (mod_in hm0).2
    · -- bag[3] = bag[3] + 1
      refine ⟨_, rfl, b, _, _, _, rfl, rfl, .of hb, a3, _, _, rfl, rfl, _, rfl, b, _, _, 3, rfl, rfl, hb, rfl, ?_⟩
      have e3 : ([.ref g, .int sd, .int n, .int c] : List V).set 3 (.int (c + 1)) = [.ref g, .int sd, .int n, .int (c + 1)] := rfl
      rw [e3]
      have hb1 : (upd H b (.lst [.ref g, .int sd, .int n, .int (c + 1)])) b = some (.lst [.ref g, .int sd, .int n, .int (c + 1)]) := upd_same
      have hg1 : (upd H b (.lst [.ref g, .int sd, .int n, .int (c + 1)])) g = some (.lst (ns.map .int)) := by
        rw [upd_ne ngb]
        exact hg
      have c1 : atI ([.ref g, .int sd, .int n, .int (c + 1)] : List V) 1 = some (.int sd) := rfl
      have c3 : atI ([.ref g, .int sd, .int n, .int (c + 1)] : List V) 3 = some (.int (c + 1)) := rfl
      refine ⟨_, rfl, b, _, _, _, rfl, rfl, .of hb1, c1, _, rfl, b, _, _, _, rfl, rfl, .of hb1, c3, _, _, rfl, rfl, .inl ⟨by decide, by decide⟩, _, _, rfl, rfl, _, _, rfl, rfl, .inr ⟨by decide, by decide⟩, _, _, rfl, rfl, ?_⟩
      refine .inl ⟨_, rfl, _, _, rfl, rfl, (by show (0 : Int) < 2147483647; decide), ?_⟩
      generalize hn1 : (((sd + 7919 * (c + 1)) * 48271 + 11) % 2147483647 : Int) = n1
      have r1 : 0 ≤ n1 ∧ n1 < 2147483647 := by
        rw [← hn1]
        exact mod_in (by decide)
      refine ⟨_, rfl, _, rfl, _, _, rfl, rfl, ⟨by decide, by decide⟩, _, _, rfl, rfl, _, _, rfl, rfl, .inl ⟨by omega, by omega⟩, _, rfl, b, _, _, _, rfl, rfl, .of hb1, c3, _, _, rfl, rfl, ?_⟩
      refine .inl ⟨_, rfl, _, _, rfl, rfl, (by show (0 : Int) < 2147483399; decide), ?_⟩
      generalize hn2 : ((n1 * (n1 / 1009 + 69621) + (c + 1)) % 2147483399 : Int) = n2
      refine ⟨_, rfl, b, _, _, _, rfl, rfl, .of hb1, c1, _, rfl, _, _, rfl, rfl, .inl ⟨_, rfl, _, _, rfl, rfl, (by show (0 : Int) < 2147483629; decide), ?_⟩⟩
      refine ⟨_, rfl, b, _, _, 1, rfl, rfl, hb1, rfl, ?_⟩
      rw [upd_upd]
      refine ⟨_, rfl, _, _, rfl, rfl, ⟨by decide, by decide⟩, .inl ⟨_, rfl, _, rfl, _, _, rfl, rfl, hm0, ?_⟩⟩
      refine q _ _ (fun p h1 _ => upd_ne h1) ⟨ngb, ns, _, n, c + 1, upd_same, ?_, hp⟩ (mod_in hm0).1 (mod_in hm0).2
      rw [upd_ne ngb]
      exact hg
theorem scSome : FnScope ["bag", "things"] ["bag", "things"] (defScope sSome) := ⟨rfl, rfl, rfl, by decide +kernel, rfl, by decide +kernel, by decide +kernel⟩
theorem ok_some {f fP : Addr} {fd fdP : FuncData} {k : Nat} (F : Fun K "_law_some" "_law_some" sSome f fd) (T : BagTxt mg) (FP : Fun K "_law_pick" "_law_pick" sPick fP fdP) (gP : mg "_law_pick" = some (.ref fP)) (bP : Binds K fdP ["bag", "many"] []) : FnOk P w K mg base CX0 (k + 2) f fd ["bag", "things"] (spSome K) := by
  have GP : FnOk P w K mg base CX0 (k + 1) fP fdP ["bag", "many"] spPick := ok_pick FP T
  refine F.ok scSome (fun vs H Q E h => ?_) (fun cdv A outer s H vs Q E hr h => ?_)
  · obtain ⟨b, g, t, xs, rfl, _⟩ := h
    rfl
  · obtain ⟨b, g, t, xs, rfl, hB, hS, ntb, ntg, hne, hlen, q⟩ := h
    refine ⟨_, pss_one (ps_ret (pe_ix ix_list (pv 1) (pe_call GP hr rfl gP FP.kp bP .nil pass0 (pa_cons (pv 0) (pa_cons (pe_callB call_len_seq (by rfl) T.len_ PySem.boot_len (pa_cons (pv 1) pa_nil)) pa_nil))) (fun _ _ => rfl))), ?_⟩
    have hl : 0 < xs.length := by
      cases xs with
      | nil => exact absurd rfl hne
      | cons _ _ => simp
    refine ⟨_, rfl, _, rfl, _, rfl, t, xs, rfl, .inl hS, ?_⟩
    refine ⟨b, g, _, rfl, hB, by omega, by omega, fun H' r hbut hB' h0 h1 => ?_⟩
    have hS' : SqL K H' t xs := by
      rcases hS with (e | ⟨o, e⟩) | e
      · exact .inl (.inl ((hbut t ntb ntg).trans e))
      · exact .inl (.inr ⟨o, (hbut t ntb ntg).trans e⟩)
      · exact .inr e
    have hr' : r.toNat < xs.length := by omega
    have er : xs[r.toNat]? = some xs[r.toNat] := List.getElem?_eq_getElem hr'
    have ea := atI_nat er
    rw [Int.toNat_of_nonneg h0] at ea
    exact ⟨t, xs, r, _, rfl, rfl, hS', ea, q _ _ hbut hB' (List.getElem_mem hr')⟩
end
end L2.My

set_option Elab.async false
set_option linter.all false
set_option maxRecDepth 100000
set_option maxHeartbeats 4000000
namespace L2.My
open PySem PySem.Spec PyProof.Rows
abbrev sPlain : Stmt := top 38
abbrev sTold : Stmt := top 39
abbrev sFlags : Stmt := top 40
abbrev sLaw : Stmt := top 41
abbrev sInit0 : Stmt := inClass (top 1) 0
/-- the __init__ of the i-th class with a field -/
abbrev sInit1 (i : Nat) : Stmt := inClass (top (23 + i)) 0
def plainN : List Str := ["NoKind", "NoParts", "NoTerm", "NoTerms", "NoBag", "NoBags", "NoName", "NoLock", "NoLeaf", "NoNode", "Named", "TreeFull", "NoLocks", "NoRoom", "NoWords", "NoLetter", "Unknown", "NoLot", "NoFact", "NoTheft", "NoEpoch"]
def toldN : List (Str × Str) := [("BadTerm", "at"), ("TooLong", "most"), ("BadTree", "part"), ("BadWorld", "part"), ("BadWish", "at"), ("BadRule", "part"), ("TooMany", "most"), ("BadImage", "line"), ("Unsound", "sentence"), ("BadLine", "line"), ("BadRows", "at")]
def errN : List Str := plainN ++ toldN.map (·.1)
open He in
/-- what the head tells of the errors -/
structure ErrTxt (P : Program) (w : World) (K : PySem.W.Frag) (mg : Str → Option Value) (base : Heap) : Prop where
  isi : mg "isinstance" = none
  glo : ∀ x ∈ errN, mg x = some (.ref (ga K x))
  xc : ∀ x ∈ errN, XC K (ga K x)
  kit : ∀ x ∈ errN, ∀ y ∈ errN, PySem.W.kitOne K (.ref (ga K x)) (.ref (ga K y)) = some (decide (x = y))
  post : mg "PostError" = some (.ref (ga K "PostError"))
  kitP : ∀ x ∈ errN, PySem.W.kitOne K (.ref (ga K x)) (.ref (ga K "PostError")) = some true
  kitV : ∀ x ∈ errN, PySem.W.kitOne K (.ref (ga K x)) (.type "ValueError") = some true
  ini0 : ∀ x ∈ plainN, PySem.W.findIn K (.ref (ga K x)) "__init__" = some (some (.ref (ma K (ga K "PostError") "__init__")))
  iniT0 : PySem.W.typeIn K (.ref (ma K (ga K "PostError") "__init__")) = some (.type "function")
  fn0 : ∃ fd, Fun K "__init__" "PostError.__init__" sInit0 (ma K (ga K "PostError") "__init__") fd
  ini1 : ∀ p ∈ toldN, PySem.W.findIn K (.ref (ga K p.1)) "__init__" = some (some (.ref (ma K (ga K p.1) "__init__"))) ∧ PySem.W.typeIn K (.ref (ma K (ga K p.1) "__init__")) = some (.type "function") ∧ PySem.W.findIn K (.ref (ga K p.1)) p.2 = some none
  fn1 : ∀ p ∈ toldN, ∃ fd, Binds K fd ["self", p.2] [] ∧ FnOk P w K mg base CX0 1 (ma K (ga K p.1) "__init__") fd ["self", p.2] (fun vs H Q _ => ∃ a v, vs = [.ref a, v] ∧ H a = some (exo a (ga K p.1) none) ∧ ∀ dx H2, H dx = none → dx ≠ a → H2 = upd (upd H dx (exd dx [(p.2, v)])) a (exo a (ga K p.1) (some dx)) → Q .non H2)

section
variable {P : Program} {w : World} {K : PySem.W.Frag} {mg : Str → Option Value} {base : Heap}
open He
/-! ### __init__ -/
theorem scI0 : FnScope ["self"] ["self"] (defScope sInit0) := ⟨rfl, rfl, rfl, by decide +kernel, rfl, by decide +kernel, by decide +kernel⟩
def spI0 : Sp := fun vs H Q _ => ∃ a, vs = [.ref a] ∧ Q .non H
theorem ok_init0 {f : Addr} {fd : FuncData} (F : Fun K "__init__" "PostError.__init__" sInit0 f fd) : FnOk P w K mg base CX0 1 f fd ["self"] spI0 := by
  refine F.ok scI0 (fun vs H Q E h => ?_) (fun cdv A outer s H vs Q E hr h => ?_)
  · obtain ⟨a, rfl, _⟩ := h
    rfl
  · obtain ⟨a, rfl, q⟩ := h
    exact ⟨_, pss_one ps_pass, q⟩
def spI1 (K : PySem.W.Frag) (C : Addr) (f : Str) : Sp := fun vs H Q _ => ∃ a v, vs = [.ref a, v] ∧ H a = some (exo a C none) ∧ ∀ dx H2, H dx = none → dx ≠ a → H2 = upd (upd H dx (exd dx [(f, v)])) a (exo a C (some dx)) → Q .non H2
/-! ### errors without a field -/
def tE0 (K : PySem.W.Frag) (x : Str) : TE := fun σ H Q => ∀ a H2, H a = none → Same H H2 → ErrAt H2 a (ga K x) → Q (.ref a) H2
theorem mem_plain {x : Str} (h : x ∈ plainN) : x ∈ errN := List.mem_append_left _ h
theorem mem_told {p : Str × Str} (h : p ∈ toldN) : p.1 ∈ errN := List.mem_append_right _ (List.mem_map_of_mem h)
theorem pe_pl {X : Cx} {x : Str} {p pos : Pos} (T : ErrTxt X.prog X.w X.K X.mg X.base) (hr : Room 2 X.A) (hx : x ∈ plainN) (hg : Gl X x) (hdb : (x == ("__debug__" : Str)) = false := by decide) :
    PE X (.Call (.Name x p) [] [] pos) (tE0 X.K x) := by
  obtain ⟨fd, F⟩ := T.fn0
  have C := T.xc x (mem_plain hx)
  have b := F.binds (ps := ["self"]) fun _ _ _ _ _ _ us hl => match us, hl with | [_], _ => rfl
  refine ⟨fun pins s σ H Q I h => ?_⟩
  refine (pe_mkx0 (CX := CX0) C.o (T.ini0 x hx) T.iniT0 (ok_init0 F) hr b .nil (fun _ _ _ _ _ _ _ z => z.elim) hg (T.glo x (mem_plain hx)) hdb).run pins s σ H Q I ?_
  refine ⟨by decide, fun a ha => ⟨a, rfl, rfl, ?_⟩⟩
  exact h a _ ha (same_upd ha) ⟨none, upd_same, fun dx e => nomatch e⟩
/-! ### errors with a field -/
def ErrFld (H : Hp) (a C : Addr) (f : Str) (v : V) : Prop := ∃ dx, H a = some (exo a C (some dx)) ∧ H dx = some (exd dx [(f, v)])
theorem ErrFld.same {H H' : Hp} {a C : Addr} {f : Str} {v : V} (h : ErrFld H a C f v) (s : Same H H') : ErrFld H' a C f v := by
  obtain ⟨dx, h1, h2⟩ := h
  exact ⟨dx, s _ _ h1, s _ _ h2⟩
theorem ErrFld.at {H : Hp} {a C : Addr} {f : Str} {v : V} (h : ErrFld H a C f v) : ErrAt H a C := by
  obtain ⟨dx, h1, h2⟩ := h
  refine ⟨some dx, h1, fun d e => ?_⟩
  cases e
  exact ⟨_, h2⟩
def tE1 (K : PySem.W.Frag) (x f : Str) (i : Nat) : TE := fun σ H Q => ∃ v, σ[i]? = some (some v) ∧ ∀ a H2, H a = none → Same H H2 → ErrFld H2 a (ga K x) f v → Q (.ref a) H2
theorem pe_to {X : Cx} {x f y : Str} {p pos p2 : Pos} {i : Nat} (T : ErrTxt X.prog X.w X.K X.mg X.base) (hr : Room 2 X.A) (hx : (x, f) ∈ toldN) (hg : Gl X x) (hN : X.N[i]? = some y) (hv : Vis X.env.scope y) (hdb : (x == ("__debug__" : Str)) = false := by decide)
    (hy1 : (y == ("__debug__" : Str)) = false := by decide) (hy2 : (y == ("__classdict__" : Str)) = false := by decide) : PE X (.Call (.Name x p) [.Name y p2] [] pos) (tE1 X.K x f i) := by
  obtain ⟨fd, b, F⟩ := T.fn1 (x, f) hx
  obtain ⟨i1, i2, i3⟩ := T.ini1 (x, f) hx
  have C := T.xc x (mem_told hx)
  refine ⟨fun pins s σ H Q I h => ?_⟩
  obtain ⟨v, ev, h⟩ := h
  refine (pe_mkx (CX := CX0) C.o i1 i2 F hr b .nil (fun _ _ _ _ _ _ _ z => z.elim) hg (T.glo x (mem_told hx)) (pa_cons (pe_var hN hv hy1 hy2) pa_nil) hdb).run pins s σ H Q I ?_
  refine ⟨v, ev, (by show 1 ≤ 1000; decide), fun a ha => ⟨a, v, rfl, upd_same, fun dx H2 nd ne e => ?_⟩⟩
  have nda : H dx = none := by
    rw [upd_ne ne] at nd
    exact nd
  refine ⟨rfl, h a H2 ha ?_ ⟨dx, ?_, ?_⟩⟩
  · rw [e]
    intro c o q
    rw [upd_ne (ne_of_none q ha), upd_ne (ne_of_none q nda), upd_ne (ne_of_none q ha)]
    exact q
  · rw [e, upd_same]
  · rw [e, upd_ne ne, upd_same]
/-! ### isinstance -/
def tIs (K : PySem.W.Frag) (i : Nat) (x : Str) : TE := fun σ H Q => ∃ a c, σ[i]? = some (some (.ref a)) ∧ c ∈ errN ∧ ErrAt H a (ga K c) ∧ Q (.bl (decide (c = x))) H
theorem pe_is {X : Cx} {x y : Str} {p p1 p2 pos : Pos} {i : Nat} (T : ErrTxt X.prog X.w X.K X.mg X.base) (hx : x ∈ errN) (hg : Gl X "isinstance") (hg2 : Gl X x) (hN : X.N[i]? = some y) (hv : Vis X.env.scope y) (hdb : (x == ("__debug__" : Str)) = false := by decide)
    (hy1 : (y == ("__debug__" : Str)) = false := by decide) (hy2 : (y == ("__classdict__" : Str)) = false := by decide) : PE X (.Call (.Name "isinstance" p) [.Name y p1, .Name x p2] [] pos) (tIs X.K i x) := by
  refine ⟨fun pins s σ H Q I h => ?_⟩
  obtain ⟨a, c, ea, hc, hE, h⟩ := h
  refine (pe_callB call_isX hg T.isi (by decide +kernel) (pa_cons (pe_var hN hv hy1 hy2) (pa_cons (pe_glob (v := .ref (ga X.K x)) hg2 (T.glo x hx) rfl hdb) pa_nil))).run pins s σ H Q I ?_
  exact ⟨_, ea, a, _, _, _, _, rfl, hE, T.xc c hc, .own _, T.kit c hc x hx, h⟩
/-- a list of such -/
def tIsL (K : PySem.W.Frag) (i : Nat) : List Str → TA
  | [] => tNil
  | x :: r => tCons (tIs K i x) (tIsL K i r)
theorem read_is {i : Nat} {a : Addr} {c : Str} {σ : St} {H : Hp} (ea : σ[i]? = some (some (.ref a))) (hc : c ∈ errN) (hE : ErrAt H a (ga K c)) : ∀ (xs : List Str) (Q : List V → Hp → Prop), Q (xs.map fun x => .bl (decide (c = x))) H → tIsL K i xs σ H Q
  | [], Q, q => q
  | x :: r, Q, q => ⟨a, c, ea, hc, hE, read_is ea hc hE r _ q⟩
/-- errors without fields, a row of them -/
def tPlL (K : PySem.W.Frag) : List Str → TA
  | [] => tNil
  | x :: r => tCons (tE0 K x) (tPlL K r)
def ErrsAt (K : PySem.W.Frag) (H : Hp) (as : List Addr) (xs : List Str) : Prop := Paired (fun a x => ErrAt H a (ga K x)) as xs
theorem ErrsAt.same {H H' : Hp} : ∀ {as : List Addr} {xs : List Str}, ErrsAt K H as xs → Same H H' → ErrsAt K H' as xs
  | _, _, .nil, _ => .nil
  | _, _, .cons h t, s => .cons (h.same s) (ErrsAt.same t s)
theorem ErrsAt.app {H : Hp} : ∀ {as bs : List Addr} {xs ys : List Str}, ErrsAt K H as xs → ErrsAt K H bs ys → ErrsAt K H (as ++ bs) (xs ++ ys)
  | _, _, _, _, .nil, s => s
  | _, _, _, _, .cons h t, s => .cons h (ErrsAt.app t s)
theorem read_pl {σ : St} : ∀ (xs : List Str) (H : Hp) (Q : List V → Hp → Prop), (∀ as H2, Same H H2 → ErrsAt K H2 as xs → Q (as.map V.ref) H2) → tPlL K xs σ H Q
  | [], H, Q, q => q [] H (Same.refl H) .nil
  | x :: r, H, Q, q => fun a H2 ha s hE => read_pl r H2 _ fun as H3 s3 h3 => q (a :: as) H3 (s.trans s3) (.cons (hE.same s3) h3)
/-! ### the promises -/
def spPlain (K : PySem.W.Frag) : Sp := fun vs H Q _ => vs = [] ∧ ∀ H' p as, Same H H' → H' p = some (.lst (as.map V.ref)) → ErrsAt K H' as plainN → Q (.ref p) H'
def spFlags (K : PySem.W.Frag) : Sp := fun vs H Q _ => ∃ a c, vs = [.ref a] ∧ c ∈ errN ∧ ErrAt H a (ga K c) ∧ ∀ H' p, Same H H' → H p = none → H' p = some (.lst (errN.map fun x => .bl (decide (c = x)))) → Q (.ref p) H'
def spTold (K : PySem.W.Frag) : Sp := fun vs H Q _ => ∃ v, vs = [v] ∧ ∀ H' p l1 l2 as, Same H H' → H' p = some (.tup [.ref l1, .ref l2]) → H' l1 = some (.lst (as.map V.ref)) → ErrsAt K H' as (toldN.map (·.1)) → H' l2 = some (.lst (List.replicate 11 v)) → Q (.ref p) H'
theorem scFlags : FnScope ["e", "found"] ["e"] (defScope sFlags) := ⟨rfl, rfl, rfl, by decide +kernel, rfl, by decide +kernel, by decide +kernel⟩
theorem scPlain : FnScope ["one", "two"] [] (defScope sPlain) := ⟨rfl, rfl, rfl, by decide +kernel, rfl, by decide +kernel, by decide +kernel⟩
theorem scTold : FnScope ["thing", "one", "two", "three", "four", "five", "six", "seven", "eight", "nine", "ten", "last", "fields"] ["thing"] (defScope sTold) := ⟨rfl, rfl, rfl, by decide +kernel, rfl, by decide +kernel, by decide +kernel⟩

theorem seq_set {te : TE} {i : Nat} {u : TS} {D : Ends} {σ : St} {H : Hp} (h : te σ H fun v H1 => u D (σ.set i (some v)) H1) : tSeq (tAsg te (gName i)) u D σ H := h
theorem seq_par3 {ta : TA} {i j l : Nat} {u : TS} {D : Ends} {σ : St} {H : Hp} (h : ta σ H fun vs H1 => ∃ x y z, vs = [x, y, z] ∧ u D (((σ.set i (some x)).set j (some y)).set l (some z)) H1) : tSeq (tPar3 i j l ta) u D σ H := h
theorem seq_par {ta : TA} {i j : Nat} {u : TS} {D : Ends} {σ : St} {H : Hp} (h : ta σ H fun vs H1 => ∃ x y, vs = [x, y] ∧ u D ((σ.set i (some x)).set j (some y)) H1) : tSeq (tPar i j ta) u D σ H := h
theorem ret_of {te : TE} {D : Ends} {σ : St} {H : Hp} (h : te σ H D.rt) : tRet te D σ H := h
theorem lst_of {ta : TA} {σ : St} {H : Hp} {Q : VK} (h : ta σ H fun xs H1 => xs.length ≤ sizeLine ∧ ∀ p, H1 p = none → Q (.ref p) (upd H1 p (.lst xs))) : tLst ta σ H Q := h
theorem tup_of {ta : TA} {σ : St} {H : Hp} {Q : VK} (h : ta σ H fun xs H1 => xs.length ≤ sizeLine ∧ ∀ p, H1 p = none → Q (.ref p) (upd H1 p (.tup xs))) : tTup ta σ H Q := h
theorem cons_of {te : TE} {ta : TA} {σ : St} {H : Hp} {Q : List V → Hp → Prop} (h : te σ H fun x H1 => ta σ H1 fun xs H2 => Q (x :: xs) H2) : tCons te ta σ H Q := h
theorem nil_of {σ : St} {H : Hp} {Q : List V → Hp → Prop} (h : Q [] H) : tNil σ H Q := h
theorem step_is0 {σ : St} {H : Hp} {a : Addr} {c : Str} {ys : List Str} {Q : VK} (ea : σ[0]? = some (some (.ref a))) (hc : c ∈ errN) (hE : ErrAt H a (ga K c)) (hy : ys.length ≤ 100)
    (q : ∀ H' l', Same H H' → H l' = none → H' l' = some (.lst (ys.map fun x => .bl (decide (c = x)))) → Q (.ref l') H') : tLst (tIsL K 0 ys) σ H Q := by
  refine read_is ea hc hE ys _ ⟨?_, fun p hp => q _ p (same_upd hp) hp upd_same⟩
  rw [List.length_map]
  exact Nat.le_of_lt (small1000 (by omega))
theorem step_is {σ : St} {H : Hp} {l a : Addr} {c : Str} {xs ys : List Str} {Q : VK} (ea : σ[0]? = some (some (.ref a))) (el : σ[1]? = some (some (.ref l))) (hc : c ∈ errN) (hE : ErrAt H a (ga K c)) (hl : H l = some (.lst (xs.map fun x => .bl (decide (c = x)))))
    (hx : xs.length ≤ 100) (hy : ys.length ≤ 100) (q : ∀ H' l', Same H H' → H l' = none → H' l' = some (.lst ((xs ++ ys).map fun x => .bl (decide (c = x)))) → Q (.ref l') H') : tOp rCat (tVar 1) (tLst (tIsL K 0 ys)) σ H Q := by
  refine ⟨.ref l, el, read_is ea hc hE ys _ ⟨?_, fun p hp => ?_⟩⟩
  · rw [List.length_map]
    exact Nat.le_of_lt (small1000 (by omega))
  · have nlp : l ≠ p := ne_of_none hl hp
    refine ⟨l, p, _, _, rfl, rfl, (by rw [upd_ne nlp]; exact hl), upd_same, ?_, fun r hr => ?_⟩
    · rw [List.length_map, List.length_map]
      exact Nat.le_of_lt (small1000 (by omega))
    · refine q _ r ((same_upd hp).trans (same_upd hr)) ((same_upd hp).free hr) ?_
      rw [upd_same, List.map_append]
theorem step_pl {σ : St} {H : Hp} {xs : List Str} {Q : VK} (hx : xs.length ≤ 100) (q : ∀ H' l as, Same H H' → H' l = some (.lst (as.map V.ref)) → as.length = xs.length → ErrsAt K H' as xs → Q (.ref l) H') : tLst (tPlL K xs) σ H Q := by
  refine read_pl xs H _ fun as H2 s2 h2 => ?_
  have el : as.length = xs.length := Paired.length h2
  refine ⟨?_, fun p hp => ?_⟩
  · rw [List.length_map, el]
    exact Nat.le_of_lt (small1000 (by omega))
  · exact q _ p as (s2.trans (same_upd hp)) upd_same el (h2.same (same_upd hp))
theorem step_to {σ : St} {H : Hp} {x f : Str} {i : Nat} {Q : VK} {v : V} (ev : σ[i]? = some (some v)) (q : ∀ a H2, Same H H2 → ErrFld H2 a (ga K x) f v → Q (.ref a) H2) : tE1 K x f i σ H Q := ⟨v, ev, fun a H2 _ s h => q a H2 s h⟩
theorem step_fld {σ : St} {H : Hp} {x f : Str} {i : Nat} {Q : VK} {v : V} {a : Addr} {P : Program} {w : World} {mg : Str → Option Value} {base : Heap} (T : ErrTxt P w K mg base) (hx : (x, f) ∈ toldN) (ea : σ[i]? = some (some (.ref a))) (h : ErrFld H a (ga K x) f v) (q : Q v H) : tXfv K f (tVar i) σ H Q := by
  obtain ⟨dx, h1, h2⟩ := h
  obtain ⟨_, _, i3⟩ := T.ini1 (x, f) hx
  exact ⟨_, ea, a, _, dx, _, v, rfl, T.xc x (mem_told hx), i3, h1, h2, (by simp [List.lookup]), q⟩

theorem ok_flags {f : Addr} {fd : FuncData} {k : Nat} (F : Fun K "_law_flags" "_law_flags" sFlags f fd) (T : ErrTxt P w K mg base) : FnOk P w K mg base CX0 (k + 1) f fd ["e"] (spFlags K) := by
  refine F.ok scFlags (fun vs H Q E h => ?_) (fun cdv A outer s H vs Q E hr h => ?_)
  · obtain ⟨a, c, rfl, _⟩ := h
    rfl
  · obtain ⟨a, c, rfl, hc, hE, q⟩ := h
    refine ⟨_, (pss_cons (ps_set (i := 1) scFlags.nd rfl (Or.inl rfl) (pe_lst (pa_cons (pe_is T (x := "NoKind") (i := 0) (by decide +kernel) (by rfl) (by rfl) rfl (.inl rfl)) (pa_cons (pe_is T (x := "NoParts") (i := 0) (by decide +kernel) (by rfl) (by rfl) rfl (.inl rfl)) (pa_cons (pe_is T (x := "NoTerm") (i := 0) (by decide +kernel) (by rfl) (by rfl) rfl (.inl rfl)) (pa_cons (pe_is T (x := "NoTerms") (i := 0) (by decide +kernel) (by rfl) (by rfl) rfl (.inl rfl)) pa_nil))))))
      (pss_cons (ps_set (i := 1) scFlags.nd rfl (Or.inl rfl) (pe_op op_cat (pv 1) (pe_lst (pa_cons (pe_is T (x := "NoBag") (i := 0) (by decide +kernel) (by rfl) (by rfl) rfl (.inl rfl)) (pa_cons (pe_is T (x := "NoBags") (i := 0) (by decide +kernel) (by rfl) (by rfl) rfl (.inl rfl)) (pa_cons (pe_is T (x := "NoName") (i := 0) (by decide +kernel) (by rfl) (by rfl) rfl (.inl rfl)) (pa_cons (pe_is T (x := "NoLock") (i := 0) (by decide +kernel) (by rfl) (by rfl) rfl (.inl rfl)) pa_nil)))))))
      (pss_cons (ps_set (i := 1) scFlags.nd rfl (Or.inl rfl) (pe_op op_cat (pv 1) (pe_lst (pa_cons (pe_is T (x := "NoLeaf") (i := 0) (by decide +kernel) (by rfl) (by rfl) rfl (.inl rfl)) (pa_cons (pe_is T (x := "NoNode") (i := 0) (by decide +kernel) (by rfl) (by rfl) rfl (.inl rfl)) (pa_cons (pe_is T (x := "Named") (i := 0) (by decide +kernel) (by rfl) (by rfl) rfl (.inl rfl)) (pa_cons (pe_is T (x := "TreeFull") (i := 0) (by decide +kernel) (by rfl) (by rfl) rfl (.inl rfl)) pa_nil)))))))
      (pss_cons (ps_set (i := 1) scFlags.nd rfl (Or.inl rfl) (pe_op op_cat (pv 1) (pe_lst (pa_cons (pe_is T (x := "NoLocks") (i := 0) (by decide +kernel) (by rfl) (by rfl) rfl (.inl rfl)) (pa_cons (pe_is T (x := "NoRoom") (i := 0) (by decide +kernel) (by rfl) (by rfl) rfl (.inl rfl)) (pa_cons (pe_is T (x := "NoWords") (i := 0) (by decide +kernel) (by rfl) (by rfl) rfl (.inl rfl)) (pa_cons (pe_is T (x := "NoLetter") (i := 0) (by decide +kernel) (by rfl) (by rfl) rfl (.inl rfl)) pa_nil)))))))
      (pss_cons (ps_set (i := 1) scFlags.nd rfl (Or.inl rfl) (pe_op op_cat (pv 1) (pe_lst (pa_cons (pe_is T (x := "Unknown") (i := 0) (by decide +kernel) (by rfl) (by rfl) rfl (.inl rfl)) (pa_cons (pe_is T (x := "NoLot") (i := 0) (by decide +kernel) (by rfl) (by rfl) rfl (.inl rfl)) (pa_cons (pe_is T (x := "NoFact") (i := 0) (by decide +kernel) (by rfl) (by rfl) rfl (.inl rfl)) (pa_cons (pe_is T (x := "NoTheft") (i := 0) (by decide +kernel) (by rfl) (by rfl) rfl (.inl rfl)) pa_nil)))))))
      (pss_cons (ps_set (i := 1) scFlags.nd rfl (Or.inl rfl) (pe_op op_cat (pv 1) (pe_lst (pa_cons (pe_is T (x := "NoEpoch") (i := 0) (by decide +kernel) (by rfl) (by rfl) rfl (.inl rfl)) (pa_cons (pe_is T (x := "BadTerm") (i := 0) (by decide +kernel) (by rfl) (by rfl) rfl (.inl rfl)) (pa_cons (pe_is T (x := "TooLong") (i := 0) (by decide +kernel) (by rfl) (by rfl) rfl (.inl rfl)) (pa_cons (pe_is T (x := "BadTree") (i := 0) (by decide +kernel) (by rfl) (by rfl) rfl (.inl rfl)) pa_nil)))))))
      (pss_cons (ps_set (i := 1) scFlags.nd rfl (Or.inl rfl) (pe_op op_cat (pv 1) (pe_lst (pa_cons (pe_is T (x := "BadWorld") (i := 0) (by decide +kernel) (by rfl) (by rfl) rfl (.inl rfl)) (pa_cons (pe_is T (x := "BadWish") (i := 0) (by decide +kernel) (by rfl) (by rfl) rfl (.inl rfl)) (pa_cons (pe_is T (x := "BadRule") (i := 0) (by decide +kernel) (by rfl) (by rfl) rfl (.inl rfl)) (pa_cons (pe_is T (x := "TooMany") (i := 0) (by decide +kernel) (by rfl) (by rfl) rfl (.inl rfl)) pa_nil)))))))
      (pss_cons (ps_set (i := 1) scFlags.nd rfl (Or.inl rfl) (pe_op op_cat (pv 1) (pe_lst (pa_cons (pe_is T (x := "BadImage") (i := 0) (by decide +kernel) (by rfl) (by rfl) rfl (.inl rfl)) (pa_cons (pe_is T (x := "Unsound") (i := 0) (by decide +kernel) (by rfl) (by rfl) rfl (.inl rfl)) (pa_cons (pe_is T (x := "BadLine") (i := 0) (by decide +kernel) (by rfl) (by rfl) rfl (.inl rfl)) (pa_cons (pe_is T (x := "BadRows") (i := 0) (by decide +kernel) (by rfl) (by rfl) rfl (.inl rfl)) pa_nil)))))))
      (pss_one (ps_ret (pv 1))))))))))), ?_⟩
    refine seq_set ?_
    refine step_is0 (K := K) (ys := ["NoKind", "NoParts", "NoTerm", "NoTerms"]) rfl hc hE (by decide) fun H0 l0 s0 n0 h0 => ?_
    refine seq_set ?_
    refine step_is (K := K) (xs := ["NoKind", "NoParts", "NoTerm", "NoTerms"]) (ys := ["NoBag", "NoBags", "NoName", "NoLock"]) rfl rfl hc (hE.same s0) h0 (by decide) (by decide) fun H1 l1 t1 n1 h1 => ?_
    have s1 := s0.trans t1
    refine seq_set ?_
    refine step_is (K := K) (xs := ["NoKind", "NoParts", "NoTerm", "NoTerms", "NoBag", "NoBags", "NoName", "NoLock"]) (ys := ["NoLeaf", "NoNode", "Named", "TreeFull"]) rfl rfl hc (hE.same s1) h1 (by decide) (by decide) fun H2 l2 t2 n2 h2 => ?_
    have s2 := s1.trans t2
    refine seq_set ?_
    refine step_is (K := K) (xs := ["NoKind", "NoParts", "NoTerm", "NoTerms", "NoBag", "NoBags", "NoName", "NoLock", "NoLeaf", "NoNode", "Named", "TreeFull"]) (ys := ["NoLocks", "NoRoom", "NoWords", "NoLetter"]) rfl rfl hc (hE.same s2) h2 (by decide) (by decide) fun H3 l3 t3 n3 h3 => ?_
    have s3 := s2.trans t3
    refine seq_set ?_
    refine step_is (K := K) (xs := ["NoKind", "NoParts", "NoTerm", "NoTerms", "NoBag", "NoBags", "NoName", "NoLock", "NoLeaf", "NoNode", "Named", "TreeFull", "NoLocks", "NoRoom", "NoWords", "NoLetter"]) (ys := ["Unknown", "NoLot", "NoFact", "NoTheft"]) rfl rfl hc (hE.same s3) h3 (by decide) (by decide) fun H4 l4 t4 n4 h4 => ?_
    have s4 := s3.trans t4
    refine seq_set ?_
    refine step_is (K := K) (xs := ["NoKind", "NoParts", "NoTerm", "NoTerms", "NoBag", "NoBags", "NoName", "NoLock", "NoLeaf", "NoNode", "Named", "TreeFull", "NoLocks", "NoRoom", "NoWords", "NoLetter", "Unknown", "NoLot", "NoFact", "NoTheft"]) (ys := ["NoEpoch", "BadTerm", "TooLong", "BadTree"]) rfl rfl hc (hE.same s4) h4 (by decide) (by decide) fun H5 l5 t5 n5 h5 => ?_
    have s5 := s4.trans t5
    refine seq_set ?_
    refine step_is (K := K) (xs := ["NoKind", "NoParts", "NoTerm", "NoTerms", "NoBag", "NoBags", "NoName", "NoLock", "NoLeaf", "NoNode", "Named", "TreeFull", "NoLocks", "NoRoom", "NoWords", "NoLetter", "Unknown", "NoLot", "NoFact", "NoTheft", "NoEpoch", "BadTerm", "TooLong", "BadTree"]) (ys := ["BadWorld", "BadWish", "BadRule", "TooMany"]) rfl rfl hc (hE.same s5) h5 (by decide) (by decide) fun H6 l6 t6 n6 h6 => ?_
    have s6 := s5.trans t6
    refine seq_set ?_
    refine step_is (K := K) (xs := ["NoKind", "NoParts", "NoTerm", "NoTerms", "NoBag", "NoBags", "NoName", "NoLock", "NoLeaf", "NoNode", "Named", "TreeFull", "NoLocks", "NoRoom", "NoWords", "NoLetter", "Unknown", "NoLot", "NoFact", "NoTheft", "NoEpoch", "BadTerm", "TooLong", "BadTree", "BadWorld", "BadWish", "BadRule", "TooMany"]) (ys := ["BadImage", "Unsound", "BadLine", "BadRows"]) rfl rfl hc (hE.same s6) h6 (by decide) (by decide) fun H7 l7 t7 n7 h7 => ?_
    have s7 := s6.trans t7
    exact ⟨_, rfl, q H7 l7 s7 (s6.free n7) h7⟩
theorem ok_plain {f : Addr} {fd : FuncData} {k : Nat} (F : Fun K "_law_plain" "_law_plain" sPlain f fd) (T : ErrTxt P w K mg base) : FnOk P w K mg base CX0 3 f fd [] (spPlain K) := by
  refine F.ok scPlain (fun vs H Q E h => ?_) (fun cdv A outer s H vs Q E hr h => ?_)
  · obtain ⟨rfl, _⟩ := h
    rfl
  · obtain ⟨rfl, q⟩ := h
    refine ⟨_, (pss_cons (ps_set (i := 0) scPlain.nd rfl (Or.inl rfl) (pe_lst (pa_cons (pe_pl T hr (x := "NoKind") (by decide +kernel) (by rfl)) (pa_cons (pe_pl T hr (x := "NoParts") (by decide +kernel) (by rfl)) (pa_cons (pe_pl T hr (x := "NoTerm") (by decide +kernel) (by rfl)) (pa_cons (pe_pl T hr (x := "NoTerms") (by decide +kernel) (by rfl)) (pa_cons (pe_pl T hr (x := "NoBag") (by decide +kernel) (by rfl)) (pa_cons (pe_pl T hr (x := "NoBags") (by decide +kernel) (by rfl)) (pa_cons (pe_pl T hr (x := "NoName") (by decide +kernel) (by rfl)) (pa_cons (pe_pl T hr (x := "NoLock") (by decide +kernel) (by rfl)) (pa_cons (pe_pl T hr (x := "NoLeaf") (by decide +kernel) (by rfl)) (pa_cons (pe_pl T hr (x := "NoNode") (by decide +kernel) (by rfl)) pa_nil))))))))))))
      (pss_cons (ps_set (i := 1) scPlain.nd rfl (Or.inl rfl) (pe_lst (pa_cons (pe_pl T hr (x := "Named") (by decide +kernel) (by rfl)) (pa_cons (pe_pl T hr (x := "TreeFull") (by decide +kernel) (by rfl)) (pa_cons (pe_pl T hr (x := "NoLocks") (by decide +kernel) (by rfl)) (pa_cons (pe_pl T hr (x := "NoRoom") (by decide +kernel) (by rfl)) (pa_cons (pe_pl T hr (x := "NoWords") (by decide +kernel) (by rfl)) (pa_cons (pe_pl T hr (x := "NoLetter") (by decide +kernel) (by rfl)) (pa_cons (pe_pl T hr (x := "Unknown") (by decide +kernel) (by rfl)) (pa_cons (pe_pl T hr (x := "NoLot") (by decide +kernel) (by rfl)) (pa_cons (pe_pl T hr (x := "NoFact") (by decide +kernel) (by rfl)) (pa_cons (pe_pl T hr (x := "NoTheft") (by decide +kernel) (by rfl)) pa_nil))))))))))))
      (pss_one (ps_ret (pe_op op_cat (pe_op op_cat (pv 0) (pv 1)) (pe_lst (pa_cons (pe_pl T hr (x := "NoEpoch") (by decide +kernel) (by rfl)) pa_nil))))))), ?_⟩
    refine seq_set ?_
    refine step_pl (K := K) (xs := ["NoKind", "NoParts", "NoTerm", "NoTerms", "NoBag", "NoBags", "NoName", "NoLock", "NoLeaf", "NoNode"]) (by decide) fun H1 l1 as1 s1 h1 e1 a1 => ?_
    refine seq_set ?_
    refine step_pl (K := K) (xs := ["Named", "TreeFull", "NoLocks", "NoRoom", "NoWords", "NoLetter", "Unknown", "NoLot", "NoFact", "NoTheft"]) (by decide) fun H2 l2 as2 s2 h2 e2 a2 => ?_
    refine ⟨_, rfl, _, rfl, ?_⟩
    have q1 : H2 l1 = _ := s2 _ _ h1
    refine ⟨l1, l2, _, _, rfl, rfl, q1, h2, ?_, fun l3 n3 => ?_⟩
    · rw [List.length_map, List.length_map, e1, e2]
      decide
    · refine step_pl (K := K) (xs := ["NoEpoch"]) (by decide) fun H4 l4 as4 s4 h4 e4 a4 => ?_
      have q3 : H4 l3 = _ := s4 _ _ upd_same
      refine ⟨l3, l4, _, _, rfl, rfl, q3, h4, ?_, fun l5 n5 => ?_⟩
      · rw [List.length_append, List.length_map, List.length_map, List.length_map, e1, e2, e4]
        decide
      · have s3 : Same H2 _ := same_upd (o := .lst (as1.map V.ref ++ as2.map V.ref)) n3
        have s5 : Same H4 _ := same_upd (o := .lst (as1.map V.ref ++ as2.map V.ref ++ as4.map V.ref)) n5
        refine q _ l5 (as1 ++ as2 ++ as4) (s1.trans (s2.trans (s3.trans (s4.trans s5)))) ?_ (((a1.same (s2.trans (s3.trans (s4.trans s5)))).app (a2.same (s3.trans (s4.trans s5)))).app (a4.same s5))
        rw [upd_same, List.map_append, List.map_append]
theorem ok_told {f : Addr} {fd : FuncData} {k : Nat} (F : Fun K "_law_told" "_law_told" sTold f fd) (T : ErrTxt P w K mg base) : FnOk P w K mg base CX0 3 f fd ["thing"] (spTold K) := by
  refine F.ok scTold (fun vs H Q E h => ?_) (fun cdv A outer s H vs Q E hr h => ?_)
  · obtain ⟨v, rfl, _⟩ := h
    rfl
  · obtain ⟨v, rfl, q⟩ := h
    refine ⟨_, (pss_cons (ps_par3 (i := 1) (j := 2) (l := 3) rfl scTold.nd rfl rfl rfl (by decide) (by decide) (by decide) rfl rfl rfl (pa_cons (pe_to T hr (x := "BadTerm") (f := "at") (i := 0) (by decide +kernel) (by rfl) rfl (.inl rfl)) (pa_cons (pe_to T hr (x := "TooLong") (f := "most") (i := 0) (by decide +kernel) (by rfl) rfl (.inl rfl)) (pa_cons (pe_to T hr (x := "BadTree") (f := "part") (i := 0) (by decide +kernel) (by rfl) rfl (.inl rfl)) pa_nil))) rfl)
      (pss_cons (ps_par3 (i := 4) (j := 5) (l := 6) rfl scTold.nd rfl rfl rfl (by decide) (by decide) (by decide) rfl rfl rfl (pa_cons (pe_to T hr (x := "BadWorld") (f := "part") (i := 0) (by decide +kernel) (by rfl) rfl (.inl rfl)) (pa_cons (pe_to T hr (x := "BadWish") (f := "at") (i := 0) (by decide +kernel) (by rfl) rfl (.inl rfl)) (pa_cons (pe_to T hr (x := "BadRule") (f := "part") (i := 0) (by decide +kernel) (by rfl) rfl (.inl rfl)) pa_nil))) rfl)
      (pss_cons (ps_par3 (i := 7) (j := 8) (l := 9) rfl scTold.nd rfl rfl rfl (by decide) (by decide) (by decide) rfl rfl rfl (pa_cons (pe_to T hr (x := "TooMany") (f := "most") (i := 0) (by decide +kernel) (by rfl) rfl (.inl rfl)) (pa_cons (pe_to T hr (x := "BadImage") (f := "line") (i := 0) (by decide +kernel) (by rfl) rfl (.inl rfl)) (pa_cons (pe_to T hr (x := "Unsound") (f := "sentence") (i := 0) (by decide +kernel) (by rfl) rfl (.inl rfl)) pa_nil))) rfl)
      (pss_cons (ps_par (i := 10) (j := 11) rfl scTold.nd rfl rfl (by decide) rfl rfl (pa_cons (pe_to T hr (x := "BadLine") (f := "line") (i := 0) (by decide +kernel) (by rfl) rfl (.inl rfl)) (pa_cons (pe_to T hr (x := "BadRows") (f := "at") (i := 0) (by decide +kernel) (by rfl) rfl (.inl rfl)) pa_nil)) rfl)
      (pss_cons (ps_set (i := 12) scTold.nd rfl (Or.inl rfl) (pe_lst (pa_cons (pe_xfv (pv 1)) (pa_cons (pe_xfv (pv 2)) (pa_cons (pe_xfv (pv 3)) (pa_cons (pe_xfv (pv 4)) (pa_cons (pe_xfv (pv 5)) (pa_cons (pe_xfv (pv 6)) (pa_cons (pe_xfv (pv 7)) (pa_cons (pe_xfv (pv 8)) (pa_cons (pe_xfv (pv 9)) pa_nil)))))))))))
      (pss_one (ps_ret (pe_tup (pa_cons (pe_lst (pa_cons (pv 1) (pa_cons (pv 2) (pa_cons (pv 3) (pa_cons (pv 4) (pa_cons (pv 5) (pa_cons (pv 6) (pa_cons (pv 7) (pa_cons (pv 8) (pa_cons (pv 9) (pa_cons (pv 10) (pa_cons (pv 11) pa_nil)))))))))))) (pa_cons (pe_op op_cat (pv 12) (pe_lst (pa_cons (pe_xfv (pv 10)) (pa_cons (pe_xfv (pv 11)) pa_nil)))) pa_nil)))))))))), ?_⟩
    refine seq_par3 ?_
    refine cons_of ?_
    refine step_to (K := K) (v := v) rfl fun a1 G1 t1 f1 => ?_
    refine cons_of ?_
    refine step_to (K := K) (v := v) rfl fun a2 G2 t2 f2 => ?_
    refine cons_of ?_
    refine step_to (K := K) (v := v) rfl fun a3 G3 t3 f3 => ?_
    refine ⟨_, _, _, rfl, ?_⟩
    refine seq_par3 ?_
    refine cons_of ?_
    refine step_to (K := K) (v := v) rfl fun a4 G4 t4 f4 => ?_
    refine cons_of ?_
    refine step_to (K := K) (v := v) rfl fun a5 G5 t5 f5 => ?_
    refine cons_of ?_
    refine step_to (K := K) (v := v) rfl fun a6 G6 t6 f6 => ?_
    refine ⟨_, _, _, rfl, ?_⟩
    refine seq_par3 ?_
    refine cons_of ?_
    refine step_to (K := K) (v := v) rfl fun a7 G7 t7 f7 => ?_
    refine cons_of ?_
    refine step_to (K := K) (v := v) rfl fun a8 G8 t8 f8 => ?_
    refine cons_of ?_
    refine step_to (K := K) (v := v) rfl fun a9 G9 t9 f9 => ?_
    refine ⟨_, _, _, rfl, ?_⟩
    refine seq_par ?_
    refine cons_of ?_
    refine step_to (K := K) (v := v) rfl fun a10 G10 t10 f10 => ?_
    refine cons_of ?_
    refine step_to (K := K) (v := v) rfl fun a11 G11 t11 f11 => ?_
    refine ⟨_, _, rfl, ?_⟩
    have g1 := f1.same (t2.trans (t3.trans (t4.trans (t5.trans (t6.trans (t7.trans (t8.trans (t9.trans (t10.trans t11)))))))))
    have g2 := f2.same (t3.trans (t4.trans (t5.trans (t6.trans (t7.trans (t8.trans (t9.trans (t10.trans t11))))))))
    have g3 := f3.same (t4.trans (t5.trans (t6.trans (t7.trans (t8.trans (t9.trans (t10.trans t11)))))))
    have g4 := f4.same (t5.trans (t6.trans (t7.trans (t8.trans (t9.trans (t10.trans t11))))))
    have g5 := f5.same (t6.trans (t7.trans (t8.trans (t9.trans (t10.trans t11)))))
    have g6 := f6.same (t7.trans (t8.trans (t9.trans (t10.trans t11))))
    have g7 := f7.same (t8.trans (t9.trans (t10.trans t11)))
    have g8 := f8.same (t9.trans (t10.trans t11))
    have g9 := f9.same (t10.trans t11)
    have g10 := f10.same t11
    have g11 := f11
    refine seq_set (lst_of ?_)
    refine cons_of ?_
    refine step_fld (K := K) (x := "BadTerm") (v := v) T (by decide +kernel) rfl g1 ?_
    refine cons_of ?_
    refine step_fld (K := K) (x := "TooLong") (v := v) T (by decide +kernel) rfl g2 ?_
    refine cons_of ?_
    refine step_fld (K := K) (x := "BadTree") (v := v) T (by decide +kernel) rfl g3 ?_
    refine cons_of ?_
    refine step_fld (K := K) (x := "BadWorld") (v := v) T (by decide +kernel) rfl g4 ?_
    refine cons_of ?_
    refine step_fld (K := K) (x := "BadWish") (v := v) T (by decide +kernel) rfl g5 ?_
    refine cons_of ?_
    refine step_fld (K := K) (x := "BadRule") (v := v) T (by decide +kernel) rfl g6 ?_
    refine cons_of ?_
    refine step_fld (K := K) (x := "TooMany") (v := v) T (by decide +kernel) rfl g7 ?_
    refine cons_of ?_
    refine step_fld (K := K) (x := "BadImage") (v := v) T (by decide +kernel) rfl g8 ?_
    refine cons_of ?_
    refine step_fld (K := K) (x := "Unsound") (v := v) T (by decide +kernel) rfl g9 ?_
    refine ⟨by show 9 ≤ sizeLine; decide, fun l1 n1 => ?_⟩
    have u1 : Same G11 _ := same_upd (o := .lst [v, v, v, v, v, v, v, v, v]) n1
    refine ⟨_, rfl, _, rfl, _, rfl, _, rfl, _, rfl, _, rfl, _, rfl, _, rfl, _, rfl, _, rfl, _, rfl, by show 11 ≤ sizeLine; decide, fun l2 n2 => ?_⟩
    have u2 : Same _ _ := same_upd (o := .lst [.ref a1, .ref a2, .ref a3, .ref a4, .ref a5, .ref a6, .ref a7, .ref a8, .ref a9, .ref a10, .ref a11]) n2
    refine ⟨_, rfl, ?_⟩
    refine cons_of ?_
    refine step_fld (K := K) (x := "BadLine") (v := v) T (by decide +kernel) rfl (g10.same (u1.trans u2)) ?_
    refine cons_of ?_
    refine step_fld (K := K) (x := "BadRows") (v := v) T (by decide +kernel) rfl (g11.same (u1.trans u2)) ?_
    refine ⟨by show 2 ≤ sizeLine; decide, fun l3 n3 => ?_⟩
    have u3 : Same _ _ := same_upd (o := .lst [v, v]) n3
    refine ⟨l1, l3, _, _, rfl, rfl, u3 _ _ (u2 _ _ upd_same), upd_same, by show 9 + 2 ≤ sizeLine; decide, fun l4 n4 => ?_⟩
    have u4 : Same _ _ := same_upd (o := .lst ([v, v, v, v, v, v, v, v, v] ++ [v, v])) n4
    refine ⟨by show 2 ≤ sizeLine; decide, fun p n5 => ?_⟩
    have u5 : Same _ _ := same_upd (o := .tup [.ref l2, .ref l4]) n5
    have us := u1.trans (u2.trans (u3.trans (u4.trans u5)))
    refine q _ p l2 l4 [a1, a2, a3, a4, a5, a6, a7, a8, a9, a10, a11] ((t1.trans (t2.trans (t3.trans (t4.trans (t5.trans (t6.trans (t7.trans (t8.trans (t9.trans (t10.trans t11)))))))))).trans us) upd_same (u5 _ _ (u4 _ _ (u3 _ _ upd_same))) ?_ (u5 _ _ upd_same)
    exact .cons (g1.at.same us) (.cons (g2.at.same us) (.cons (g3.at.same us) (.cons (g4.at.same us) (.cons (g5.at.same us) (.cons (g6.at.same us) (.cons (g7.at.same us) (.cons (g8.at.same us) (.cons (g9.at.same us) (.cons (g10.at.same us) (.cons (g11.at.same us) .nil))))))))))
end
end L2.My

set_option Elab.async false
set_option linter.all false
set_option maxRecDepth 100000
set_option maxHeartbeats 4000000
namespace L2.My
open PySem PySem.Spec PyProof.Rows
/-! ### what is drawn for a field -/
inductive ThOk (H : Hp) : V → Prop where
  | int (i : Int) : ThOk H (.int i)
  | non : ThOk H .non
  | bl (b : Bool) : ThOk H (.bl b)
  | str (z : Str) : ThOk H (.str z)
  | tup (p : Addr) (i : Int) (h : H p = some (.tup [.str "ground", .int i])) : ThOk H (.ref p)
  | lst (p : Addr) (i : Int) (h : H p = some (.lst [.int i])) : ThOk H (.ref p)
  | dct (p : Addr) (h : H p = some (.dK [])) : ThOk H (.ref p)
theorem ThOk.same {H H' : Hp} {v : V} (h : ThOk H v) (s : Same H H') : ThOk H' v := by
  cases h with
  | int i => exact .int i
  | non => exact .non
  | bl b => exact .bl b
  | str z => exact .str z
  | tup p i h => exact .tup p i (s _ _ h)
  | lst p i h => exact .lst p i (s _ _ h)
  | dct p h => exact .dct p (s _ _ h)
def isB : V → Bool
  | .bl _ => true
  | _ => false
def rIsB : List V → Hp → VK → Prop := fun xs H Q => ∃ v, xs = [v, .ty "bool"] ∧ ThOk H v ∧ Q (.bl (isB v)) H
theorem call_isB {X : Cx} : CallR X (.builtin "isinstance") rIsB := by
  intro pins s σ H xs us Q I r h
  obtain ⟨v, rfl, ht, q⟩ := h
  refine call_isi pins s σ H _ us Q I r ?_
  cases ht with
  | int i => exact ⟨_, _, _, _, _, rfl, .ty _, .base (.int i), kit_ty (show kitB "int" "bool" = some false by decide +kernel), q⟩
  | non => exact ⟨_, _, _, _, _, rfl, .ty _, .base .non, kit_ty (show kitB "NoneType" "bool" = some false by decide +kernel), q⟩
  | bl b => exact ⟨_, _, _, _, _, rfl, .ty _, .base (.bl b), kit_ty (show kitB "bool" "bool" = some true by decide +kernel), q⟩
  | str z => exact ⟨_, _, _, _, _, rfl, .ty _, .base (.str z), kit_ty (show kitB "str" "bool" = some false by decide +kernel), q⟩
  | tup p i h => exact ⟨_, _, _, _, _, rfl, .ty _, .base (.tup h), kit_ty (show kitB "tuple" "bool" = some false by decide +kernel), q⟩
  | lst p i h => exact ⟨_, _, _, _, _, rfl, .ty _, .base (.lst h), kit_ty (show kitB "list" "bool" = some false by decide +kernel), q⟩
  | dct p h => exact ⟨_, _, _, _, _, rfl, .ty _, .base (.dK h), kit_ty (show kitB "dict" "bool" = some false by decide +kernel), q⟩
/-- a thing is not unequal to itself -/
def rNeT : R2 := fun x y H Q => x = y ∧ ThOk H x ∧ Q (.bl false) H
theorem op_neT {X : Cx} (hu : X.A.units + 64 < cLine) : OpR X (compareOp .NotEq) rNeT := by
  intro pins s σ H x y v u Q I rx ry h
  obtain ⟨rfl, ht, q⟩ := h
  have key : ∀ z : V, scal z z = true → Q (.bl (!decide (z = z))) H = Q (.bl false) H := fun z _ => by simp
  cases ht with
  | int i => exact op_ne pins s σ H _ _ v u Q I rx ry ⟨rfl, by rw [key _ rfl]; exact q⟩
  | non => exact op_ne pins s σ H _ _ v u Q I rx ry ⟨rfl, by rw [key _ rfl]; exact q⟩
  | bl b => exact op_ne pins s σ H _ _ v u Q I rx ry ⟨rfl, by rw [key _ rfl]; exact q⟩
  | str z => exact op_ne pins s σ H _ _ v u Q I rx ry ⟨rfl, by rw [key _ rfl]; exact q⟩
  | tup p i h =>
    have so : PyData.strOk "ground" = true := by decide +kernel
    have sh : SeqAt.shaped (.tuple [.str "ground", .int i]) = true := by simp [so, SeqAt.shaped, PyData.canLay0, PyData.canLayAll0, PyData.depth, PyData.depthAll]
    have d : Dp X.K H (.ref p) (.tuple [.str "ground", .int i]) := .tup (.of h) (.cons (.str _) (.cons (.int i) .nil))
    refine op_neD hu pins s σ H _ _ v u Q I rx ry ⟨_, _, d, d, sh, sh, ?_⟩
    rw [SeqAt.eqv_refl _ (SeqAt.canLay_of_shaped sh)]
    exact q
  | lst p i h =>
    have sh : SeqAt.shaped (.list [.int i]) = true := by simp [SeqAt.shaped, PyData.canLay0, PyData.canLayAll0, PyData.depth, PyData.depthAll]
    have d : Dp X.K H (.ref p) (.list [.int i]) := .lst (.of h) (.cons (.int i) .nil)
    refine op_neD hu pins s σ H _ _ v u Q I rx ry ⟨_, _, d, d, sh, sh, ?_⟩
    rw [SeqAt.eqv_refl _ (SeqAt.canLay_of_shaped sh)]
    exact q
  | dct p h =>
    cases (show v = Value.ref p from rx)
    cases (show u = Value.ref p from ry)
    obtain ⟨_, hs, vs, kv, d⟩ := (show ObjOk X.prog X.w H s.heap p (.dK []) from I.hok p _ h)
    cases kv
    exact PySem.W.keq_ne hs hs d d (Nat.lt_of_le_of_lt (Nat.le_add_right _ _) hu) (fun _ => .nil) ⟨.bl false, H, I, rfl, q⟩
/-! ### the flags beside the places -/
theorem yes_of {σ : St} {H : Hp} {F : Bool → Hp → Prop} (h : F true H) : tYes σ H F := h
theorem errN_nd : errN.Nodup := by decide +kernel
theorem errN_len : errN.length = 32 := by decide +kernel
theorem flags_eq {c : Str} {i : Nat} (h : errN[i]? = some c) : (errN.map fun x => V.bl (decide (c = x))) = (List.range 32).map fun (j : Nat) => V.bl (decide ((i : Int) = (j : Int))) := by
  apply List.ext_getElem?
  intro j
  rw [List.getElem?_map, List.getElem?_map]
  by_cases hj : j < 32
  · have e1 : errN[j]? = some (errN[j]'(by rw [errN_len]; exact hj)) := List.getElem?_eq_getElem _
    have e2 : (List.range 32)[j]? = some j := by rw [List.getElem?_range hj]
    rw [e1, e2]
    show some (V.bl (decide (c = _))) = some (V.bl (decide ((i : Int) = (j : Int))))
    have q : (c = errN[j]'(by rw [errN_len]; exact hj)) ↔ ((i : Int) = (j : Int)) := by
      constructor
      · intro e
        have e3 : errN[j]? = some c := by rw [e1, e]
        obtain ⟨hi, ei⟩ := List.getElem?_eq_some_iff.mp h
        obtain ⟨hj2, ej⟩ := List.getElem?_eq_some_iff.mp e3
        have := (List.getElem_inj errN_nd).mp (ei.trans ej.symm)
        omega
      · intro e
        have e4 : i = j := by omega
        rw [e4, e1] at h
        exact (Option.some.inj h).symm
    rw [decide_eq_decide.mpr q]
  · have e1 : errN[j]? = none := by
      rw [List.getElem?_eq_none_iff, errN_len]
      omega
    have e2 : (List.range 32)[j]? = none := by
      rw [List.getElem?_eq_none_iff, List.length_range]
      omega
    rw [e1, e2]
    rfl
theorem flags_bs {c : Str} {i : Nat} (h : errN[i]? = some c) : (errN.map fun x => V.bl (decide (c = x))) = ((List.range 32).map fun (j : Nat) => decide ((i : Int) = (j : Int))).map V.bl := by
  rw [flags_eq h, List.map_map]
  rfl
open He in
theorem ErrsAt.get {K : PySem.W.Frag} {H : Hp} : ∀ {as : List Addr} {xs : List Str} {i : Nat} {a : Addr}, ErrsAt K H as xs → as[i]? = some a → ∃ c, xs[i]? = some c ∧ ErrAt H a (ga K c)
  | _, _, i, _, .nil, h => by simp at h
  | _, _, 0, _, .cons h t, e => by
    have e2 := Option.some.inj e
    rw [← e2]
    exact ⟨_, rfl, h⟩
  | _, _, i + 1, _, .cons h t, e => ErrsAt.get (i := i) t e
theorem dp_bls {K : PySem.W.Frag} {H : Hp} : ∀ bs : List Bool, DpAll K H (bs.map V.bl) (bs.map PyData.bool)
  | [] => .nil
  | b :: r => .cons (.bl b) (dp_bls r)
theorem can_bls : ∀ bs : List Bool, PyData.canLayAll0 (bs.map PyData.bool) = true
  | [] => by simp [PyData.canLayAll0]
  | b :: r => by simp [PyData.canLayAll0, PyData.canLay0, can_bls r]
theorem dep_bls : ∀ bs : List Bool, PyData.depthAll (bs.map PyData.bool) ≤ 1
  | [] => by simp [PyData.depthAll]
  | b :: r => by
    have := dep_bls r
    simp only [List.map_cons, PyData.depthAll, PyData.depth]
    omega
theorem shape_bls (bs : List Bool) : SeqAt.shaped (.list (bs.map PyData.bool)) = true := by
  have h := dep_bls bs
  have h2 := can_bls bs
  simp only [SeqAt.shaped, PyData.canLay0, PyData.depth, Bool.and_eq_true, decide_eq_true_eq]
  refine ⟨h2, decide_eq_true ?_⟩
  omega
theorem BagAt.same {H H' : Hp} {b g : Addr} (h : BagAt H b g) (s : Same H H') : BagAt H' b g := by
  obtain ⟨n, ns, sd, m, c, h1, h2, h3⟩ := h
  exact ⟨n, ns, sd, m, c, s _ _ h1, s _ _ h2, h3⟩
theorem BagAt.hb {H : Hp} {b g : Addr} (h : BagAt H b g) : ∃ o, H b = some o := by
  obtain ⟨n, ns, sd, m, c, h1, h2, h3⟩ := h
  exact ⟨_, h1⟩
theorem BagAt.hg {H : Hp} {b g : Addr} (h : BagAt H b g) : ∃ o, H g = some o := by
  obtain ⟨n, ns, sd, m, c, h1, h2, h3⟩ := h
  exact ⟨_, h2⟩
open He in
/-- e is of the class of PostError, of ValueError -/
theorem pe_isP {X : Cx} {y : Str} {p p1 p2 pos : Pos} {i : Nat} (T : ErrTxt X.prog X.w X.K X.mg X.base) (hg : Gl X "isinstance") (hg2 : Gl X "PostError") (hN : X.N[i]? = some y) (hv : Vis X.env.scope y)
    (hy1 : (y == ("__debug__" : Str)) = false := by decide) (hy2 : (y == ("__classdict__" : Str)) = false := by decide) : PE X (.Call (.Name "isinstance" p) [.Name y p1, .Name "PostError" p2] [] pos)
      (fun σ H Q => ∃ a c, σ[i]? = some (some (.ref a)) ∧ c ∈ errN ∧ ErrAt H a (ga X.K c) ∧ Q (.bl true) H) := by
  refine ⟨fun pins s σ H Q I h => ?_⟩
  obtain ⟨a, c, ea, hc, hE, h⟩ := h
  refine (pe_callB call_isX hg T.isi (by decide +kernel) (pa_cons (pe_var hN hv hy1 hy2) (pa_cons (pe_glob (v := .ref (ga X.K "PostError")) hg2 T.post rfl) pa_nil))).run pins s σ H Q I ?_
  exact ⟨_, ea, a, _, _, _, _, rfl, hE, T.xc c hc, .own _, T.kitP c hc, h⟩
open He in
theorem pe_isV {X : Cx} {y : Str} {p p1 p2 pos : Pos} {i : Nat} (T : ErrTxt X.prog X.w X.K X.mg X.base) (hm : X.mg "ValueError" = none) (hg : Gl X "isinstance") (hg2 : Gl X "ValueError") (hN : X.N[i]? = some y) (hv : Vis X.env.scope y)
    (hy1 : (y == ("__debug__" : Str)) = false := by decide) (hy2 : (y == ("__classdict__" : Str)) = false := by decide) : PE X (.Call (.Name "isinstance" p) [.Name y p1, .Name "ValueError" p2] [] pos)
      (fun σ H Q => ∃ a c, σ[i]? = some (some (.ref a)) ∧ c ∈ errN ∧ ErrAt H a (ga X.K c) ∧ Q (.bl true) H) := by
  refine ⟨fun pins s σ H Q I h => ?_⟩
  obtain ⟨a, c, ea, hc, hE, h⟩ := h
  refine (pe_callB call_isX hg T.isi (by decide +kernel) (pa_cons (pe_var hN hv hy1 hy2) (pa_cons (pe_bltn (v := .ty "ValueError") (u := .type "ValueError") hg2 hm (by decide +kernel) rfl) pa_nil))).run pins s σ H Q I ?_
  exact ⟨_, ea, a, _, _, _, _, rfl, hE, T.xc c hc, .ty _, T.kitV c hc, h⟩
theorem pe_isb {X : Cx} {y : Str} {p p1 p2 pos : Pos} {i : Nat} (hi : X.mg "isinstance" = none) (hm : X.mg "bool" = none) (hg : Gl X "isinstance") (hg2 : Gl X "bool") (hN : X.N[i]? = some y) (hv : Vis X.env.scope y)
    (hy1 : (y == ("__debug__" : Str)) = false := by decide) (hy2 : (y == ("__classdict__" : Str)) = false := by decide) : PE X (.Call (.Name "isinstance" p) [.Name y p1, .Name "bool" p2] [] pos)
      (fun σ H Q => ∃ v, σ[i]? = some (some v) ∧ ThOk H v ∧ Q (.bl (isB v)) H) := by
  refine ⟨fun pins s σ H Q I h => ?_⟩
  obtain ⟨v, ev, ht, h⟩ := h
  refine (pe_callB call_isB hg hi (by decide +kernel) (pa_cons (pe_var hN hv hy1 hy2) (pa_cons (pe_bltn (v := .ty "bool") (u := .type "bool") hg2 hm (by decide +kernel) rfl) pa_nil))).run pins s σ H Q I ?_
  exact ⟨_, ev, v, rfl, ht, h⟩
structure LawTxt (K : PySem.W.Frag) (mg : Str → Option Value) (fB fP fS fPl fT fF : Addr) : Prop where
  gB : mg "_law_bag" = some (.ref fB)
  gP : mg "_law_pick" = some (.ref fP)
  gS : mg "_law_some" = some (.ref fS)
  gPl : mg "_law_plain" = some (.ref fPl)
  gT : mg "_law_told" = some (.ref fT)
  gF : mg "_law_flags" = some (.ref fF)
  enum : mg "enumerate" = none
  range : mg "range" = none
  bool_ : mg "bool" = none
  ve : mg "ValueError" = none
def spLaw (K : PySem.W.Frag) : Sp := fun vs H Q _ => ∃ (a : Addr) (ns : List Int), vs = [.ref a] ∧ SqL K H a (ns.map V.int) ∧ ns.length ≤ 63 ∧ ∀ H', Q (.bl true) H'
section
variable {P : Program} {w : World} {K : PySem.W.Frag} {mg : Str → Option Value} {base : Heap}
abbrev nLaw : List Str := ["script", "bag", "thing", "told", "fields", "errors", "at", "e", "field", "other"]
theorem scLaw : FnScope nLaw ["script"] (defScope sLaw) := ⟨rfl, rfl, rfl, by decide +kernel, rfl, by decide +kernel, by decide +kernel⟩
theorem ok_law {f fB fP fS fPl fT fF : Addr} {fd fdB fdP fdS fdPl fdT fdF : FuncData} (F : Fun K "law" "law" sLaw f fd) (B : BagTxt mg) (T : ErrTxt P w K mg base) (L : LawTxt K mg fB fP fS fPl fT fF)
    (FB : Fun K "_law_bag" "_law_bag" sBag fB fdB) (FP : Fun K "_law_pick" "_law_pick" sPick fP fdP) (FS : Fun K "_law_some" "_law_some" sSome fS fdS) (FPl : Fun K "_law_plain" "_law_plain" sPlain fPl fdPl)
    (FT : Fun K "_law_told" "_law_told" sTold fT fdT) (FF : Fun K "_law_flags" "_law_flags" sFlags fF fdF) : FnOk P w K mg base CX0 4 f fd ["script"] (spLaw K) := by
  have bB := FB.binds (ps := ["script"]) fun _ _ _ _ _ _ us hl => match us, hl with | [_], _ => rfl
  have bP := FP.binds (ps := ["bag", "many"]) fun _ _ _ _ _ _ us hl => match us, hl with | [_, _], _ => rfl
  have bS := FS.binds (ps := ["bag", "things"]) fun _ _ _ _ _ _ us hl => match us, hl with | [_, _], _ => rfl
  have bPl := FPl.binds (ps := []) fun _ _ _ _ _ _ us hl => match us, hl with | [], _ => rfl
  have bT := FT.binds (ps := ["thing"]) fun _ _ _ _ _ _ us hl => match us, hl with | [_], _ => rfl
  have bF := FF.binds (ps := ["e"]) fun _ _ _ _ _ _ us hl => match us, hl with | [_], _ => rfl
  have GB : FnOk P w K mg base CX0 1 fB fdB ["script"] (spBag K) := ok_bag FB B
  have GP : FnOk P w K mg base CX0 1 fP fdP ["bag", "many"] spPick := ok_pick FP B
  have GS : FnOk P w K mg base CX0 2 fS fdS ["bag", "things"] (spSome K) := ok_some FS B FP L.gP bP
  have GPl : FnOk P w K mg base CX0 3 fPl fdPl [] (spPlain K) := ok_plain (k := 0) FPl T
  have GT : FnOk P w K mg base CX0 3 fT fdT ["thing"] (spTold K) := ok_told (k := 0) FT T
  have GF : FnOk P w K mg base CX0 1 fF fdF ["e"] (spFlags K) := ok_flags FF T
  refine F.ok scLaw (fun vs H Q E h => ?_) (fun cdv A outer s H vs Q E hr h => ?_)
  · obtain ⟨a, ns, rfl, _⟩ := h
    rfl
  · obtain ⟨a, ns, rfl, hS, hlen, q⟩ := h
    have hr1 : Room 1 _ := hr.mono (by decide)
    have hr2 : Room 2 _ := hr.mono (by decide)
    refine ⟨_, pss_cons (ps_set (i := 1) scLaw.nd rfl (Or.inl rfl) (pe_call GB hr1 rfl L.gB FB.kp bB .nil pass0 (pa_cons (pv 0) pa_nil)))
      (pss_cons (ps_set (i := 2) scLaw.nd rfl (Or.inl rfl) (pe_call GS hr2 rfl L.gS FS.kp bS .nil pass0 (pa_cons (pv 1) (pa_cons (pe_lst (pa_cons pe_int (pa_cons (pe_call GP hr1 rfl L.gP FP.kp bP .nil pass0 (pa_cons (pv 1) (pa_cons (pe_op op_pow pe_int pe_int) pa_nil)))
        (pa_cons (pe_un un_neg pe_int) (pa_cons pe_non (pa_cons pe_bl (pa_cons pe_str (pa_cons (pe_tup (pa_cons pe_str (pa_cons pe_int pa_nil))) (pa_cons (pe_lst (pa_cons pe_int pa_nil)) (pa_cons pe_dnewK pa_nil)))))))))) pa_nil))))
      (pss_cons (ps_asg (pe_call GT hr rfl L.gT FT.kp bT .nil pass0 (pa_cons (pv 2) pa_nil)) (pg_tup rfl (pgs_cons (pg_name (i := 3) scLaw.nd rfl (Or.inl rfl)) (pgs_cons (pg_name (i := 4) scLaw.nd rfl (Or.inl rfl)) pgs_nil))))
      (pss_cons (ps_set (i := 5) scLaw.nd rfl (Or.inl rfl) (pe_op op_cat (pe_call0 GPl hr rfl L.gPl FPl.kp bPl .nil pass0) (pv 3)))
      (pss_cons (ps_for PassesOwn.never rfl (pi_enum (by rfl) L.enum (pa_cons (pv 5) pa_nil)) (pg_tup rfl (pgs_cons (pg_name (i := 6) scLaw.nd rfl (Or.inr rfl)) (pgs_cons (pg_name (i := 7) scLaw.nd rfl (Or.inl rfl)) pgs_nil)))
        (pss_cons (ps_if (PW.pt (pw_or (pt_not (pt_val (pe_isP (i := 7) T (by rfl) (by rfl) rfl (.inl rfl)))) (pw_or1 (pt_not (pt_val (pe_isV (i := 7) T L.ve (by rfl) (by rfl) rfl (.inl rfl))))))) (pss_one (ps_ret pe_bl)) pss_nil)
        (pss_one (ps_if (pt_cmpR (op_neD hr.units) (pe_call GF hr1 rfl L.gF FF.kp bF .nil pass0 (pa_cons (pv 7) pa_nil))
          (pe_lc (own := [("other", 9)]) (g := gName 9) (tt := tYes) rfl scLaw.nd (pi_range1 rfl L.range (pa_cons (pe_callB call_len_seq (by rfl) B.len_ PySem.boot_len (pa_cons (pv 5) pa_nil)) pa_nil))
            (blkOk_by (N := nLaw) (sc := defScope sLaw) (by decide +kernel)) (fun _ _ _ _ _ => pg_name (i := 9) scLaw.nd rfl (Or.inl rfl)) (fun _ _ _ _ _ => pts_nil)
            (fun _ _ _ _ _ => pe_cmpR op_eq (pv 6) (pv 9) (nomark _))) (nomark _)) (pss_one (ps_ret pe_bl)) pss_nil))))
      (pss_cons (ps_for PassesOwn.never rfl (pi_list (pv 4)) (pg_name (i := 8) scLaw.nd rfl (Or.inl rfl))
        (pss_one (ps_if (PW.pt (pw_or (pt_cmpR op_ne (pe_isb (i := 8) T.isi L.bool_ (by rfl) (by rfl) rfl (.inl rfl)) (pe_isb (i := 2) T.isi L.bool_ (by rfl) (by rfl) rfl (.inl rfl)) (nomark _)) (pw_or1 (pt_cmpR (op_neT hr.units) (pv 8) (pv 2) (nomark _))))) (pss_one (ps_ret pe_bl)) pss_nil)))
      (pss_one (ps_ret (pe_cmpR op_eq (pe_callB call_len_seq (by rfl) B.len_ PySem.boot_len (pa_cons (pv 5) pa_nil)) pe_int (nomark _))))))))), ?_⟩
    refine ⟨_, rfl, a, ns, rfl, hS, by omega, fun H1 b g s1 nb ng hB => ?_⟩
    refine ⟨_, rfl, ?_⟩
    refine cons_of (lst_of ?_)
    refine ⟨_, rfl, _, _, rfl, rfl, ⟨by decide, by decide, by decide⟩, b, g, _, rfl, hB, by decide, by decide, fun H2 r b2 hB2 r0 r1 => ?_⟩
    refine ⟨_, rfl, ?_⟩
    refine ⟨by show 2 ≤ sizeLine; decide, fun p1 n1 => ?_⟩
    refine ⟨by show 1 ≤ sizeLine; decide, fun p2 n2 => ?_⟩
    refine fun p3 n3 => ?_
    refine ⟨by show 9 ≤ sizeLine; decide, fun t nt => ?_⟩
    generalize eH3 : upd H2 p1 (HO.tup [.str "ground", .int 3]) = H3 at n2 n3 nt ⊢
    have s3 : Same H2 H3 := by rw [← eH3]; exact same_upd n1
    have q3 : H3 p1 = some (HO.tup [.str "ground", .int 3]) := by rw [← eH3]; exact upd_same
    generalize eH4 : upd H3 p2 (HO.lst [.int 1]) = H4 at n3 nt ⊢
    have s4 : Same H3 H4 := by rw [← eH4]; exact same_upd n2
    have q4 : H4 p2 = some (HO.lst [.int 1]) := by rw [← eH4]; exact upd_same
    generalize eH5 : upd H4 p3 (HO.dK []) = H5 at nt ⊢
    have s5 : Same H4 H5 := by rw [← eH5]; exact same_upd n3
    have q5 : H5 p3 = some (HO.dK []) := by rw [← eH5]; exact upd_same
    have s25 : Same H2 H5 := s3.trans (s4.trans s5)
    have s6 := same_upd (o := HO.lst [.int 0, .int r, .int (-1), .non, .bl true, .str "part", .ref p1, .ref p2, .ref p3]) nt
    have hB6 := (hB2.same s25).same s6
    obtain ⟨ob, eb⟩ := (hB2.same s25).hb
    obtain ⟨og, eg⟩ := (hB2.same s25).hg
    obtain ⟨ob2, eb2⟩ := hB2.hb
    obtain ⟨og2, eg2⟩ := hB2.hg
    obtain ⟨ob3, eb3⟩ := (hB2.same s3).hb
    obtain ⟨og3, eg3⟩ := (hB2.same s3).hg
    obtain ⟨ob4, eb4⟩ := (hB2.same (s3.trans s4)).hb
    obtain ⟨og4, eg4⟩ := (hB2.same (s3.trans s4)).hg
    refine ⟨b, g, t, _, rfl, hB6, SqL.of upd_same, (ne_of_none eb nt).symm, (ne_of_none eg nt).symm, (fun e => by cases e), (by show 9 < 1073741824; decide), fun H7 v b7 hB7 hv => ?_⟩
    have hth : ThOk H7 v := by
      simp only [List.mem_cons, List.not_mem_nil, or_false] at hv
      rcases hv with rfl | rfl | rfl | rfl | rfl | rfl | rfl | rfl | rfl
      · exact .int _
      · exact .int _
      · exact .int _
      · exact .non
      · exact .bl _
      · exact .str _
      · exact .tup p1 3 ((b7 p1 (ne_of_none eb2 n1).symm (ne_of_none eg2 n1).symm).trans (s6 _ _ (s5 _ _ (s4 _ _ q3))))
      · exact .lst p2 1 ((b7 p2 (ne_of_none eb3 n2).symm (ne_of_none eg3 n2).symm).trans (s6 _ _ (s5 _ _ q4)))
      · exact .dct p3 ((b7 p3 (ne_of_none eb4 n3).symm (ne_of_none eg4 n3).symm).trans (s6 _ _ q5))
    -- told, fields = _law_told(thing)
    refine ⟨_, rfl, v, rfl, fun H8 p l1 l2 as s8 e8 el1 ea1 el2 => ?_⟩
    refine ⟨p, _, rfl, .of e8, rfl, _, _, rfl, _, _, rfl, rfl, ?_⟩
    -- errors = _law_plain() + told
    refine ⟨rfl, fun H9 p9 as0 s9 e9 ea0 => ?_⟩
    have n0 : as0.length = 21 := Paired.length ea0
    have n1' : as.length = 11 := Paired.length ea1
    refine ⟨_, rfl, p9, l1, _, _, rfl, rfl, e9, s9 _ _ el1, ?_, fun er ner => ?_⟩
    · rw [List.length_map, List.length_map, n0, n1']
      decide
    generalize eH10 : upd H9 er (HO.lst (as0.map V.ref ++ as.map V.ref)) = H10
    have s10 : Same H9 H10 := by rw [← eH10]; exact same_upd ner
    have q10 : H10 er = some (HO.lst ((as0 ++ as).map V.ref)) := by rw [← eH10, upd_same, List.map_append]
    have hes : ErrsAt K H10 (as0 ++ as) errN := (ea0.same s10).app (ea1.same (s9.trans s10))
    have hth10 : ThOk H10 v := hth.same (s8.trans (s9.trans s10))
    have el10 : H10 l2 = some (HO.lst (List.replicate 11 v)) := s10 _ _ (s9 _ _ el2)
    have nes : (as0 ++ as).length = 32 := by rw [List.length_append, n0, n1']
    generalize as0 ++ as = es at q10 hes nes
    refine ⟨_, rfl, er, es.map V.ref, rfl, SqL.of q10, for_it (walk_enum (K := K) (a := er) (xs := es.map V.ref)) (fun i σ H' => ∃ x6 x7, σ = [some (.ref a), some (.ref b), some v, some (.ref l1), some (.ref l2), some (.ref er), x6, x7, none, none] ∧ Same H10 H')
      ⟨none, none, rfl, Same.refl _⟩ (fun i σ H' _ ⟨_, _, _, s⟩ => .of (s _ _ q10)) ?_ ?_⟩
    · rintro i x σ H' H'' hi ⟨x6, x7, rfl, sm⟩ ⟨T', y1, y2, rfl, nT, rfl, e1, e2⟩
      cases e1
      obtain ⟨ai, ei, rfl⟩ : ∃ ai, es[i]? = some ai ∧ y2 = V.ref ai := by
        have e2 : (es.map V.ref)[i]? = some y2 := e2
        rw [List.getElem?_map] at e2
        cases e : es[i]? with
        | none =>
          rw [e] at e2
          cases e2
        | some u =>
          rw [e] at e2
          exact ⟨u, rfl, (Option.some.inj e2).symm⟩
      obtain ⟨c, ec, hE⟩ := hes.get ei
      have hc : c ∈ errN := List.mem_of_getElem? ec
      generalize eT : upd H' T' (HO.tup [.int (i : Nat), .ref ai]) = HT
      have sT : Same H' HT := by rw [← eT]; exact same_upd nT
      have qT : HT T' = some (HO.tup [.int (i : Nat), .ref ai]) := by rw [← eT]; exact upd_same
      have smT := sm.trans sT
      refine ⟨T', _, rfl, .of qT, rfl, _, _, rfl, _, _, rfl, rfl, ?_⟩
      refine ⟨ai, c, rfl, hc, hE.same smT, _, rfl, ?_⟩
      refine iteF ?_
      refine ⟨ai, c, rfl, hc, hE.same smT, _, rfl, ?_⟩
      refine iteF ?_
      refine ⟨_, rfl, ai, c, rfl, hc, hE.same smT, fun H3 pF sF nF eF => ?_⟩
      have q3 : H3 er = _ := sF _ _ (smT _ _ q10)
      refine ⟨_, rfl, er, _, rfl, .inl (.of q3), _, rfl, by rw [List.length_map, nes]; decide, by rw [List.length_map, nes]; decide, fun D hD => ?_⟩
      have en : (((es.map V.ref).length : Nat) : Int).toNat = 32 := by rw [List.length_map, nes]; rfl
      rw [en]
      refine lc_range (fun j H4 => Same H3 H4 ∧ H4 D = some (.lst ((List.range j).map fun (k : Nat) => V.bl (decide ((i : Int) = (k : Int)))))) ⟨same_upd hD, upd_same⟩ ?_ ?_
      · rintro j H4 hj ⟨s4', e4⟩
        refine ⟨rfl, yes_of ?_⟩
        rw [if_pos rfl]
        refine ⟨_, rfl, _, rfl, rfl, _, e4, ?_, fun b' o e => ?_, ?_⟩
        · rw [List.length_map, List.length_range]
          exact small1000 (by omega)
        · rw [upd_ne (ne_of_none e hD)]
          exact s4' _ _ e
        · rw [upd_same, List.range_succ, List.map_append]
          have ed : decide (V.int ((i : Nat) : Int) = V.int (0 + ((j : Nat) : Int))) = decide (((i : Nat) : Int) = ((j : Nat) : Int)) := by
            rw [Int.zero_add]
            exact decide_eq_decide.mpr ⟨fun z => V.int.inj z, fun z => by rw [z]⟩
          rw [ed]
          rfl
      · rintro H4 ⟨s4', e4⟩
        have el : H4 pF = some (.lst (((List.range 32).map fun (j : Nat) => decide ((i : Int) = (j : Int))).map V.bl)) := by
          rw [s4' _ _ eF, flags_bs ec]
        have er' : H4 D = some (.lst (((List.range 32).map fun (j : Nat) => decide ((i : Int) = (j : Int))).map V.bl)) := by
          rw [e4, List.map_map]
          rfl
        have sh := shape_bls ((List.range 32).map fun (j : Nat) => decide ((i : Int) = (j : Int)))
        refine ⟨_, _, .lst (.of el) (dp_bls _), .lst (.of er') (dp_bls _), sh, sh, ?_⟩
        rw [SeqAt.eqv_refl _ (SeqAt.canLay_of_shaped sh)]
        exact ⟨_, rfl, iteF ⟨_, _, rfl, smT.trans (sF.trans s4')⟩⟩
    · rintro σ H' ⟨x6, x7, rfl, sm⟩
      refine ⟨_, rfl, l2, rfl, ⟨_, .of (sm _ _ el10)⟩, for_list (K := K) (a := l2) (xs := List.replicate 11 v) (fun i σ H2 => ∃ x8, σ = [some (.ref a), some (.ref b), some v, some (.ref l1), some (.ref l2), some (.ref er), x6, x7, x8, none] ∧ Same H10 H2)
        ⟨none, rfl, sm⟩ (fun i σ H2 _ ⟨_, _, s⟩ => .of (s _ _ el10)) ?_ ?_⟩
      · rintro i x σ H2 hi ⟨x8, rfl, sm2⟩
        obtain rfl : x = v := List.eq_of_mem_replicate (List.mem_of_getElem? hi)
        have ht2 := hth10.same sm2
        refine ⟨x, rfl, ht2, x, rfl, ht2, rfl, _, rfl, ?_⟩
        rw [decide_eq_true rfl]
        refine iteF ?_
        refine ⟨_, rfl, _, rfl, rfl, ht2, _, rfl, ?_⟩
        exact iteF ⟨_, rfl, sm2⟩
      · rintro σ H2 ⟨x8, rfl, sm2⟩
        refine ⟨_, rfl, er, _, rfl, .inl (.of (sm2 _ _ q10)), rfl, ?_⟩
        have ed : decide (V.int (((es.map V.ref).length : Nat) : Int) = V.int 32) = true := by
          rw [List.length_map, nes]
          rfl
        show Q (.bl (decide (V.int (((es.map V.ref).length : Nat) : Int) = V.int 32))) _
        rw [ed]
        exact q _
end
end L2.My

set_option Elab.async false
set_option linter.all false
set_option maxRecDepth 100000
set_option maxHeartbeats 4000000
/-! A Hook of facts by names, of defs, and of one more Bool. -/
namespace L2.My
open PySem PySem.Spec PyProof.Rows He
abbrev AlY : Type := Al × Bool
def obsY (fa : List Fa) (fn : List FnD) (ex : PySem.W.Frag → Bool) (K : PySem.W.Frag) : AlY := (obsE fa fn K, ex K && fn.all fun d => PySem.W.keepIn K (.ref (fAd K d.at_)))
def valY (fn : List FnD) : AlY := (valE fn, true)
def obsYG (n : Nat) (fa : List Fa) (fn : List FnD) (ex : PySem.W.Frag → Bool) (g : Addr → Option Obj) : AlY := obsY fa fn ex (frG g (asD g n))
structure SaysY (fa : List Fa) (fn : List FnD) (ex : PySem.W.Frag → Bool) (K : PySem.W.Frag) : Prop where
  e : SaysE fa fn K
  more : ex K = true
  kp : ∀ d ∈ fn, PySem.W.keepIn K (.ref (fAd K d.at_)) = true
theorem saysY_of {fa : List Fa} {fn : List FnD} {ex : PySem.W.Frag → Bool} {K : PySem.W.Frag} (e : obsY fa fn ex K = valY fn) : SaysY fa fn ex K := by
  have e1 : obsE fa fn K = valE fn := congrArg (fun z : AlY => z.1) e
  have e2 : (ex K && fn.all fun d => PySem.W.keepIn K (.ref (fAd K d.at_))) = true := congrArg (fun z : AlY => z.2) e
  obtain ⟨h1, h2⟩ := ba e2
  exact ⟨e1, h1, fun d hd => List.all_eq_true.mp h2 d hd⟩
def hookY (n : Nat) (fa : List Fa) (fn : List FnD) (ex : PySem.W.Frag → Bool) : PySem.W.Hook where
  α := AlY
  obs := fun s => obsYG n fa fn ex s.heap.get?
  val := fun _ => valY fn
  says := fun _ h => ∃ K : PySem.W.Frag, K.In h ∧ SaysY fa fn ex K
  of := fun _ _ e => ⟨_, frG_in, saysY_of e⟩
  keeps := fun _ _ _ ⟨K, hK, c⟩ k => ⟨K, PySem.W.Frag.In.keeps hK k, c⟩
theorem obsYG_eq {n : Nat} {fa : List Fa} {fn : List FnD} {ex : PySem.W.Frag → Bool} {g : Addr → Option Obj} {s : Shared} (h : ∀ a, g a = s.heap.get? a) : obsYG n fa fn ex g = (hookY n fa fn ex).obs s := by
  have e : g = s.heap.get? := funext h
  rw [e] <;> rfl
section
variable {fa : List Fa} {fn : List FnD} {ex : PySem.W.Frag → Bool} {K : PySem.W.Frag}
theorem SaysY.fact (c : SaysY fa fn ex K) {f : Fa} (h : f ∈ fa) : f.ok K = true := by
  obtain ⟨i, hi, e⟩ := List.mem_iff_getElem.mp h
  exact c.e.fact i (f := f) (by rw [List.getElem?_eq_getElem hi, e])
/-- a def of the text, by its place in the list -/
theorem SaysY.fun_ (c : SaysY fa fn ex K) {d : FnD} {st : Stmt} (h : d ∈ fn) (hp : d.params = defArgs st) (hb : d.body = defBody st) (hs : d.scope = defScope st) : ∃ fd, Fun K d.name d.qual st (fAd K d.at_) fd := by
  obtain ⟨i, hi, e⟩ := List.mem_iff_getElem.mp h
  obtain ⟨oc, od, osl, kV, doc, pm, an, cdv, ct, lk, hc⟩ := c.e.def_ i (d := d) (by rw [List.getElem?_eq_getElem hi, e])
  rw [hp, hb, hs] at lk
  exact ⟨_, fun_mk lk hc (c.kp d h)⟩
end
/-! ### an own exception class, decided -/
def exB (K : PySem.W.Frag) (C : Addr) : Bool := match K.lookup C with
  | some ⟨.type "type", _, .cls cd, sl⟩ => (match cd.mro, sl.toList with
    | .ref C' :: bm, [_, _, _, _, some (.builtin n), _] => C' == C && n == "ValueError.__new__" && !cd.hasDel && PySem.HandSPX.refsVE bm && cd.hasDict
    | _, _ => false)
  | _ => false
theorem exB_ok {K : PySem.W.Frag} {C : Addr} (q : exB K C = true) : ∃ nm q N bs bm sn sub ab col dd k0 k1 k2 k3 k5, K.lookup C = some (excClassObj nm q C N bs bm true sn sub ab col dd k0 k1 k2 k3 k5 "ValueError.__new__") ∧ PySem.HandSPX.refsVE bm = true := by
  unfold exB at q
  split at q
  · rename_i dd cd sl ho
    split at q
    · rename_i C' bm k0 k1 k2 k3 n k5 hm hs
      simp only [Bool.and_eq_true, beq_iff_eq, Bool.not_eq_true'] at q
      obtain ⟨⟨⟨⟨rfl, rfl⟩, hdel⟩, hr⟩, hd⟩ := q
      obtain ⟨nm, bs, mro, ns, qn, hdct, sn, sub, ab, col, del⟩ := cd
      dsimp only at hm hdel hd
      subst hm hdel hd
      have hsl : sl = #[k0, k1, k2, k3, some (.builtin "ValueError.__new__"), k5] := by
        obtain ⟨l⟩ := sl
        simp only at hs
        rw [hs]
      subst hsl
      exact ⟨nm, qn, ns, bs, bm, sn, sub, ab, col, dd, k0, k1, k2, k3, k5, ho, hr⟩
    · cases q
  · cases q
def eqV (a b : Option Value) : Bool := decide (a = b)
theorem eqV_ok {a b : Option Value} (h : eqV a b = true) : a = b := of_decide_eq_true h
def eqB (a b : Option Bool) : Bool := decide (a = b)
theorem eqB_ok {a b : Option Bool} (h : eqB a b = true) : a = b := of_decide_eq_true h
def xcB (K : PySem.W.Frag) (C : Addr) : Bool := exB K C && (eqO (PySem.W.findIn K (.ref C) "__setattr__") (some (some (.builtin "object.__setattr__"))) && (eqB (PySem.W.subIn K (.ref C) (.type "BaseException")) (some true) && (eqV (PySem.W.typeIn K (.ref C)) (some (.type "type")) && (PySem.W.keepIn K (.ref C) &&
  (eqO (PySem.W.findIn K (.ref C) "__getattribute__") (some (some (.builtin "BaseException.__getattribute__"))) && (eqO (PySem.W.findIn K (.ref C) "__getattr__") (some none) && (eqO (PySem.W.findIn K (.ref C) "__class__") (some (some (.builtin "object.__class__"))) &&
  (eqO (PySem.W.specialIn K (.builtin "object.__class__") "__get__") (some (some (.builtin "getset_descriptor.__get__"))) && (eqB (PySem.W.takesIn K (.builtin "object.__class__")) (some true) && (eqB (PySem.W.mroIn K C (.type "object")) (some true) && PySem.W.hasDictIn K C))))))))))
theorem xcB_ok {K : PySem.W.Frag} {C : Addr} (q : xcB K C = true) : XC K C := by
  obtain ⟨h1, q⟩ := ba q
  obtain ⟨h2, q⟩ := ba q
  obtain ⟨h3, q⟩ := ba q
  obtain ⟨h4, q⟩ := ba q
  obtain ⟨h5, q⟩ := ba q
  obtain ⟨h6, q⟩ := ba q
  obtain ⟨h7, q⟩ := ba q
  obtain ⟨h8, q⟩ := ba q
  obtain ⟨h9, q⟩ := ba q
  obtain ⟨h10, q⟩ := ba q
  obtain ⟨h11, h12⟩ := ba q
  exact ⟨⟨exB_ok h1, eqO_ok h2, eqB_ok h3, eqV_ok h4, h5⟩, eqO_ok h6, eqO_ok h7, eqO_ok h8, eqO_ok h9, eqB_ok h10, eqB_ok h11, h12⟩
end L2.My

set_option Elab.async false
set_option linter.all false
set_option maxRecDepth 100000
set_option maxHeartbeats 4000000
namespace L2.My
open PySem PySem.Spec PyProof.Rows He
section
variable {P : Program} {w : World} {K : PySem.W.Frag} {mg : Str → Option Value} {base : Heap}
theorem scI1_0 : FnScope ["self", "at"] ["self", "at"] (defScope (sInit1 0)) := ⟨rfl, rfl, rfl, by decide +kernel, rfl, by decide +kernel, by decide +kernel⟩
theorem ok_i1_0 {f C : Addr} {fd : FuncData} (F : Fun K "__init__" "BadTerm.__init__" (sInit1 0) f fd) (T : OexC K C) (hno : PySem.W.findIn K (.ref C) "at" = some none) : FnOk P w K mg base CX0 1 f fd ["self", "at"] (spI1 K C "at") := by
  refine F.ok scI1_0 (fun vs H Q E h => ?_) (fun cdv A outer s H vs Q E hr h => ?_)
  · obtain ⟨a, v, rfl, _⟩ := h
    rfl
  · obtain ⟨a, v, rfl, ha, q⟩ := h
    exact ⟨_, pss_one (ps_ost (pv 0) (pv 1)), ⟨_, rfl, _, rfl, a, C, rfl, T, hno, .inl ⟨ha, fun dx n ne => q dx _ n ne rfl⟩⟩⟩
theorem scI1_1 : FnScope ["self", "most"] ["self", "most"] (defScope (sInit1 1)) := ⟨rfl, rfl, rfl, by decide +kernel, rfl, by decide +kernel, by decide +kernel⟩
theorem ok_i1_1 {f C : Addr} {fd : FuncData} (F : Fun K "__init__" "TooLong.__init__" (sInit1 1) f fd) (T : OexC K C) (hno : PySem.W.findIn K (.ref C) "most" = some none) : FnOk P w K mg base CX0 1 f fd ["self", "most"] (spI1 K C "most") := by
  refine F.ok scI1_1 (fun vs H Q E h => ?_) (fun cdv A outer s H vs Q E hr h => ?_)
  · obtain ⟨a, v, rfl, _⟩ := h
    rfl
  · obtain ⟨a, v, rfl, ha, q⟩ := h
    exact ⟨_, pss_one (ps_ost (pv 0) (pv 1)), ⟨_, rfl, _, rfl, a, C, rfl, T, hno, .inl ⟨ha, fun dx n ne => q dx _ n ne rfl⟩⟩⟩
theorem scI1_2 : FnScope ["self", "part"] ["self", "part"] (defScope (sInit1 2)) := ⟨rfl, rfl, rfl, by decide +kernel, rfl, by decide +kernel, by decide +kernel⟩
theorem ok_i1_2 {f C : Addr} {fd : FuncData} (F : Fun K "__init__" "BadTree.__init__" (sInit1 2) f fd) (T : OexC K C) (hno : PySem.W.findIn K (.ref C) "part" = some none) : FnOk P w K mg base CX0 1 f fd ["self", "part"] (spI1 K C "part") := by
  refine F.ok scI1_2 (fun vs H Q E h => ?_) (fun cdv A outer s H vs Q E hr h => ?_)
  · obtain ⟨a, v, rfl, _⟩ := h
    rfl
  · obtain ⟨a, v, rfl, ha, q⟩ := h
    exact ⟨_, pss_one (ps_ost (pv 0) (pv 1)), ⟨_, rfl, _, rfl, a, C, rfl, T, hno, .inl ⟨ha, fun dx n ne => q dx _ n ne rfl⟩⟩⟩
theorem scI1_3 : FnScope ["self", "part"] ["self", "part"] (defScope (sInit1 3)) := ⟨rfl, rfl, rfl, by decide +kernel, rfl, by decide +kernel, by decide +kernel⟩
theorem ok_i1_3 {f C : Addr} {fd : FuncData} (F : Fun K "__init__" "BadWorld.__init__" (sInit1 3) f fd) (T : OexC K C) (hno : PySem.W.findIn K (.ref C) "part" = some none) : FnOk P w K mg base CX0 1 f fd ["self", "part"] (spI1 K C "part") := by
  refine F.ok scI1_3 (fun vs H Q E h => ?_) (fun cdv A outer s H vs Q E hr h => ?_)
  · obtain ⟨a, v, rfl, _⟩ := h
    rfl
  · obtain ⟨a, v, rfl, ha, q⟩ := h
    exact ⟨_, pss_one (ps_ost (pv 0) (pv 1)), ⟨_, rfl, _, rfl, a, C, rfl, T, hno, .inl ⟨ha, fun dx n ne => q dx _ n ne rfl⟩⟩⟩
theorem scI1_4 : FnScope ["self", "at"] ["self", "at"] (defScope (sInit1 4)) := ⟨rfl, rfl, rfl, by decide +kernel, rfl, by decide +kernel, by decide +kernel⟩
theorem ok_i1_4 {f C : Addr} {fd : FuncData} (F : Fun K "__init__" "BadWish.__init__" (sInit1 4) f fd) (T : OexC K C) (hno : PySem.W.findIn K (.ref C) "at" = some none) : FnOk P w K mg base CX0 1 f fd ["self", "at"] (spI1 K C "at") := by
  refine F.ok scI1_4 (fun vs H Q E h => ?_) (fun cdv A outer s H vs Q E hr h => ?_)
  · obtain ⟨a, v, rfl, _⟩ := h
    rfl
  · obtain ⟨a, v, rfl, ha, q⟩ := h
    exact ⟨_, pss_one (ps_ost (pv 0) (pv 1)), ⟨_, rfl, _, rfl, a, C, rfl, T, hno, .inl ⟨ha, fun dx n ne => q dx _ n ne rfl⟩⟩⟩
theorem scI1_5 : FnScope ["self", "part"] ["self", "part"] (defScope (sInit1 5)) := ⟨rfl, rfl, rfl, by decide +kernel, rfl, by decide +kernel, by decide +kernel⟩
theorem ok_i1_5 {f C : Addr} {fd : FuncData} (F : Fun K "__init__" "BadRule.__init__" (sInit1 5) f fd) (T : OexC K C) (hno : PySem.W.findIn K (.ref C) "part" = some none) : FnOk P w K mg base CX0 1 f fd ["self", "part"] (spI1 K C "part") := by
  refine F.ok scI1_5 (fun vs H Q E h => ?_) (fun cdv A outer s H vs Q E hr h => ?_)
  · obtain ⟨a, v, rfl, _⟩ := h
    rfl
  · obtain ⟨a, v, rfl, ha, q⟩ := h
    exact ⟨_, pss_one (ps_ost (pv 0) (pv 1)), ⟨_, rfl, _, rfl, a, C, rfl, T, hno, .inl ⟨ha, fun dx n ne => q dx _ n ne rfl⟩⟩⟩
theorem scI1_6 : FnScope ["self", "most"] ["self", "most"] (defScope (sInit1 6)) := ⟨rfl, rfl, rfl, by decide +kernel, rfl, by decide +kernel, by decide +kernel⟩
theorem ok_i1_6 {f C : Addr} {fd : FuncData} (F : Fun K "__init__" "TooMany.__init__" (sInit1 6) f fd) (T : OexC K C) (hno : PySem.W.findIn K (.ref C) "most" = some none) : FnOk P w K mg base CX0 1 f fd ["self", "most"] (spI1 K C "most") := by
  refine F.ok scI1_6 (fun vs H Q E h => ?_) (fun cdv A outer s H vs Q E hr h => ?_)
  · obtain ⟨a, v, rfl, _⟩ := h
    rfl
  · obtain ⟨a, v, rfl, ha, q⟩ := h
    exact ⟨_, pss_one (ps_ost (pv 0) (pv 1)), ⟨_, rfl, _, rfl, a, C, rfl, T, hno, .inl ⟨ha, fun dx n ne => q dx _ n ne rfl⟩⟩⟩
theorem scI1_7 : FnScope ["self", "line"] ["self", "line"] (defScope (sInit1 7)) := ⟨rfl, rfl, rfl, by decide +kernel, rfl, by decide +kernel, by decide +kernel⟩
theorem ok_i1_7 {f C : Addr} {fd : FuncData} (F : Fun K "__init__" "BadImage.__init__" (sInit1 7) f fd) (T : OexC K C) (hno : PySem.W.findIn K (.ref C) "line" = some none) : FnOk P w K mg base CX0 1 f fd ["self", "line"] (spI1 K C "line") := by
  refine F.ok scI1_7 (fun vs H Q E h => ?_) (fun cdv A outer s H vs Q E hr h => ?_)
  · obtain ⟨a, v, rfl, _⟩ := h
    rfl
  · obtain ⟨a, v, rfl, ha, q⟩ := h
    exact ⟨_, pss_one (ps_ost (pv 0) (pv 1)), ⟨_, rfl, _, rfl, a, C, rfl, T, hno, .inl ⟨ha, fun dx n ne => q dx _ n ne rfl⟩⟩⟩
theorem scI1_8 : FnScope ["self", "sentence"] ["self", "sentence"] (defScope (sInit1 8)) := ⟨rfl, rfl, rfl, by decide +kernel, rfl, by decide +kernel, by decide +kernel⟩
theorem ok_i1_8 {f C : Addr} {fd : FuncData} (F : Fun K "__init__" "Unsound.__init__" (sInit1 8) f fd) (T : OexC K C) (hno : PySem.W.findIn K (.ref C) "sentence" = some none) : FnOk P w K mg base CX0 1 f fd ["self", "sentence"] (spI1 K C "sentence") := by
  refine F.ok scI1_8 (fun vs H Q E h => ?_) (fun cdv A outer s H vs Q E hr h => ?_)
  · obtain ⟨a, v, rfl, _⟩ := h
    rfl
  · obtain ⟨a, v, rfl, ha, q⟩ := h
    exact ⟨_, pss_one (ps_ost (pv 0) (pv 1)), ⟨_, rfl, _, rfl, a, C, rfl, T, hno, .inl ⟨ha, fun dx n ne => q dx _ n ne rfl⟩⟩⟩
theorem scI1_9 : FnScope ["self", "line"] ["self", "line"] (defScope (sInit1 9)) := ⟨rfl, rfl, rfl, by decide +kernel, rfl, by decide +kernel, by decide +kernel⟩
theorem ok_i1_9 {f C : Addr} {fd : FuncData} (F : Fun K "__init__" "BadLine.__init__" (sInit1 9) f fd) (T : OexC K C) (hno : PySem.W.findIn K (.ref C) "line" = some none) : FnOk P w K mg base CX0 1 f fd ["self", "line"] (spI1 K C "line") := by
  refine F.ok scI1_9 (fun vs H Q E h => ?_) (fun cdv A outer s H vs Q E hr h => ?_)
  · obtain ⟨a, v, rfl, _⟩ := h
    rfl
  · obtain ⟨a, v, rfl, ha, q⟩ := h
    exact ⟨_, pss_one (ps_ost (pv 0) (pv 1)), ⟨_, rfl, _, rfl, a, C, rfl, T, hno, .inl ⟨ha, fun dx n ne => q dx _ n ne rfl⟩⟩⟩
theorem scI1_10 : FnScope ["self", "at"] ["self", "at"] (defScope (sInit1 10)) := ⟨rfl, rfl, rfl, by decide +kernel, rfl, by decide +kernel, by decide +kernel⟩
theorem ok_i1_10 {f C : Addr} {fd : FuncData} (F : Fun K "__init__" "BadRows.__init__" (sInit1 10) f fd) (T : OexC K C) (hno : PySem.W.findIn K (.ref C) "at" = some none) : FnOk P w K mg base CX0 1 f fd ["self", "at"] (spI1 K C "at") := by
  refine F.ok scI1_10 (fun vs H Q E h => ?_) (fun cdv A outer s H vs Q E hr h => ?_)
  · obtain ⟨a, v, rfl, _⟩ := h
    rfl
  · obtain ⟨a, v, rfl, ha, q⟩ := h
    exact ⟨_, pss_one (ps_ost (pv 0) (pv 1)), ⟨_, rfl, _, rfl, a, C, rfl, T, hno, .inl ⟨ha, fun dx n ne => q dx _ n ne rfl⟩⟩⟩
end
/-! ### the head's facts -/
def dD (x : Str) (st : Stmt) : FnD := ⟨(x, none), x, x, defArgs st, defBody st, defScope st⟩
def dM (C m q : Str) (st : Stmt) : FnD := ⟨(C, some m), m, q, defArgs st, defBody st, defScope st⟩
def fn : List FnD := [dD "_law_bag" sBag, dD "_law_pick" sPick, dD "_law_some" sSome, dD "_law_plain" sPlain, dD "_law_told" sTold, dD "_law_flags" sFlags, dD "law" sLaw, dM "PostError" "__init__" "PostError.__init__" sInit0,
  dM "BadTerm" "__init__" "BadTerm.__init__" (sInit1 0),
  dM "TooLong" "__init__" "TooLong.__init__" (sInit1 1),
  dM "BadTree" "__init__" "BadTree.__init__" (sInit1 2),
  dM "BadWorld" "__init__" "BadWorld.__init__" (sInit1 3),
  dM "BadWish" "__init__" "BadWish.__init__" (sInit1 4),
  dM "BadRule" "__init__" "BadRule.__init__" (sInit1 5),
  dM "TooMany" "__init__" "TooMany.__init__" (sInit1 6),
  dM "BadImage" "__init__" "BadImage.__init__" (sInit1 7),
  dM "Unsound" "__init__" "Unsound.__init__" (sInit1 8),
  dM "BadLine" "__init__" "BadLine.__init__" (sInit1 9),
  dM "BadRows" "__init__" "BadRows.__init__" (sInit1 10)]
def freeN : List Str := ["int", "abs", "len", "isinstance", "enumerate", "range", "bool", "ValueError"]
def fa : List Fa := ((["_law_bag", "_law_pick", "_law_some", "_law_plain", "_law_told", "_law_flags", "law", "PostError"] : List Str) ++ errN).map Fa.glo ++ freeN.map Fa.free
def exK (K : PySem.W.Frag) : Bool := (errN.all fun x => xcB K (ga K x) && (eqB (PySem.W.kitOne K (.ref (ga K x)) (.ref (ga K "PostError"))) (some true) && (eqB (PySem.W.kitOne K (.ref (ga K x)) (.type "ValueError")) (some true) &&
    errN.all fun y => eqB (PySem.W.kitOne K (.ref (ga K x)) (.ref (ga K y))) (some (decide (x = y)))))) &&
  ((plainN.all fun x => eqO (PySem.W.findIn K (.ref (ga K x)) "__init__") (some (some (.ref (ma K (ga K "PostError") "__init__"))))) && (eqV (PySem.W.typeIn K (.ref (ma K (ga K "PostError") "__init__"))) (some (.type "function")) &&
  toldN.all fun p => eqO (PySem.W.findIn K (.ref (ga K p.1)) "__init__") (some (some (.ref (ma K (ga K p.1) "__init__")))) && (eqV (PySem.W.typeIn K (.ref (ma K (ga K p.1) "__init__"))) (some (.type "function")) && eqO (PySem.W.findIn K (.ref (ga K p.1)) p.2) (some none))))
abbrev R : PySem.W.OpenRow := PySem.W.OpenLaw.row PySem.Challenge.rw_strangerspost_k00_errors_and_their_field
abbrev hk : PySem.W.Hook := hookY 6 fa fn exK
def ob (s : PySem.W.SharedT) : AlY := obsYG 6 fa fn exK (HandSHeadRun.getT s)
theorem ob_eq (s : PySem.W.SharedT) : ob s = hk.obs s.abs := obsYG_eq (HandSHeadRun.getT_eq s)
section
variable {P : Program} {w : World} {K : PySem.W.Frag} {mg : Str → Option Value} {base h : Heap}
theorem glo_in (X : K.In h) (G : h.Ns mainGlobals mg) (c : SaysY fa fn exK K) {x : Str} (hx : Fa.glo x ∈ fa) : mg x = some (.ref (ga K x)) := glo_ok X G (c.fact hx)
theorem free_in (X : K.In h) (G : h.Ns mainGlobals mg) (c : SaysY fa fn exK K) {x : Str} (hx : Fa.free x ∈ fa) : mg x = none := free_ok X G (c.fact hx)
theorem mem_fa_glo {x : Str} (h : x ∈ (["_law_bag", "_law_pick", "_law_some", "_law_plain", "_law_told", "_law_flags", "law", "PostError"] : List Str) ++ errN) : Fa.glo x ∈ fa := List.mem_append_left _ (List.mem_map_of_mem h)
theorem mem_fa_free {x : Str} (h : x ∈ freeN) : Fa.free x ∈ fa := List.mem_append_right _ (List.mem_map_of_mem h)
theorem errTxt (X : K.In h) (G : h.Ns mainGlobals mg) (c : SaysY fa fn exK K) : ErrTxt P w K mg base := by
  have m := c.more
  obtain ⟨m1, m⟩ := ba m
  obtain ⟨m2, m⟩ := ba m
  obtain ⟨m3, m4⟩ := ba m
  have k1 : ∀ x ∈ errN, xcB K (ga K x) = true ∧ PySem.W.kitOne K (.ref (ga K x)) (.ref (ga K "PostError")) = some true ∧ PySem.W.kitOne K (.ref (ga K x)) (.type "ValueError") = some true ∧ ∀ y ∈ errN, PySem.W.kitOne K (.ref (ga K x)) (.ref (ga K y)) = some (decide (x = y)) := fun x hx => by
    obtain ⟨a1, a⟩ := ba (List.all_eq_true.mp m1 x hx)
    obtain ⟨a2, a⟩ := ba a
    obtain ⟨a3, a4⟩ := ba a
    exact ⟨a1, eqB_ok a2, eqB_ok a3, fun y hy => eqB_ok (List.all_eq_true.mp a4 y hy)⟩
  have k4 : ∀ p ∈ toldN, PySem.W.findIn K (.ref (ga K p.1)) "__init__" = some (some (.ref (ma K (ga K p.1) "__init__"))) ∧ PySem.W.typeIn K (.ref (ma K (ga K p.1) "__init__")) = some (.type "function") ∧ PySem.W.findIn K (.ref (ga K p.1)) p.2 = some none := fun p hp => by
    obtain ⟨a1, a⟩ := ba (List.all_eq_true.mp m4 p hp)
    obtain ⟨a2, a3⟩ := ba a
    exact ⟨eqO_ok a1, eqV_ok a2, eqO_ok a3⟩
  refine ⟨free_in X G c (mem_fa_free (by decide +kernel)), fun x hx => glo_in X G c (mem_fa_glo (List.mem_append_right _ hx)), fun x hx => xcB_ok (k1 x hx).1, fun x hx y hy => (k1 x hx).2.2.2 y hy, glo_in X G c (mem_fa_glo (by decide +kernel)), fun x hx => (k1 x hx).2.1, fun x hx => (k1 x hx).2.2.1,
    fun x hx => eqO_ok (List.all_eq_true.mp m2 x hx), eqV_ok m3, c.fun_ (st := sInit0) (d := dM "PostError" "__init__" "PostError.__init__" sInit0) (List.mem_of_getElem? (i := 7) rfl) rfl rfl rfl, k4, ?_⟩
  intro p hp
  have hp2 := hp
  simp only [toldN, List.mem_cons, List.not_mem_nil, or_false] at hp2
  rcases hp2 with rfl | rfl | rfl | rfl | rfl | rfl | rfl | rfl | rfl | rfl | rfl
  · obtain ⟨fd, F⟩ := c.fun_ (st := (sInit1 0)) (d := dM "BadTerm" "__init__" "BadTerm.__init__" (sInit1 0)) (List.mem_of_getElem? (i := 8) rfl) rfl rfl rfl
    exact ⟨fd, F.binds (ps := ["self", "at"]) fun _ _ _ _ _ _ us hl => match us, hl with | [_, _], _ => rfl, ok_i1_0 F (xcB_ok (k1 "BadTerm" (mem_told hp)).1).o (k4 _ hp).2.2⟩
  · obtain ⟨fd, F⟩ := c.fun_ (st := (sInit1 1)) (d := dM "TooLong" "__init__" "TooLong.__init__" (sInit1 1)) (List.mem_of_getElem? (i := 9) rfl) rfl rfl rfl
    exact ⟨fd, F.binds (ps := ["self", "most"]) fun _ _ _ _ _ _ us hl => match us, hl with | [_, _], _ => rfl, ok_i1_1 F (xcB_ok (k1 "TooLong" (mem_told hp)).1).o (k4 _ hp).2.2⟩
  · obtain ⟨fd, F⟩ := c.fun_ (st := (sInit1 2)) (d := dM "BadTree" "__init__" "BadTree.__init__" (sInit1 2)) (List.mem_of_getElem? (i := 10) rfl) rfl rfl rfl
    exact ⟨fd, F.binds (ps := ["self", "part"]) fun _ _ _ _ _ _ us hl => match us, hl with | [_, _], _ => rfl, ok_i1_2 F (xcB_ok (k1 "BadTree" (mem_told hp)).1).o (k4 _ hp).2.2⟩
  · obtain ⟨fd, F⟩ := c.fun_ (st := (sInit1 3)) (d := dM "BadWorld" "__init__" "BadWorld.__init__" (sInit1 3)) (List.mem_of_getElem? (i := 11) rfl) rfl rfl rfl
    exact ⟨fd, F.binds (ps := ["self", "part"]) fun _ _ _ _ _ _ us hl => match us, hl with | [_, _], _ => rfl, ok_i1_3 F (xcB_ok (k1 "BadWorld" (mem_told hp)).1).o (k4 _ hp).2.2⟩
  · obtain ⟨fd, F⟩ := c.fun_ (st := (sInit1 4)) (d := dM "BadWish" "__init__" "BadWish.__init__" (sInit1 4)) (List.mem_of_getElem? (i := 12) rfl) rfl rfl rfl
    exact ⟨fd, F.binds (ps := ["self", "at"]) fun _ _ _ _ _ _ us hl => match us, hl with | [_, _], _ => rfl, ok_i1_4 F (xcB_ok (k1 "BadWish" (mem_told hp)).1).o (k4 _ hp).2.2⟩
  · obtain ⟨fd, F⟩ := c.fun_ (st := (sInit1 5)) (d := dM "BadRule" "__init__" "BadRule.__init__" (sInit1 5)) (List.mem_of_getElem? (i := 13) rfl) rfl rfl rfl
    exact ⟨fd, F.binds (ps := ["self", "part"]) fun _ _ _ _ _ _ us hl => match us, hl with | [_, _], _ => rfl, ok_i1_5 F (xcB_ok (k1 "BadRule" (mem_told hp)).1).o (k4 _ hp).2.2⟩
  · obtain ⟨fd, F⟩ := c.fun_ (st := (sInit1 6)) (d := dM "TooMany" "__init__" "TooMany.__init__" (sInit1 6)) (List.mem_of_getElem? (i := 14) rfl) rfl rfl rfl
    exact ⟨fd, F.binds (ps := ["self", "most"]) fun _ _ _ _ _ _ us hl => match us, hl with | [_, _], _ => rfl, ok_i1_6 F (xcB_ok (k1 "TooMany" (mem_told hp)).1).o (k4 _ hp).2.2⟩
  · obtain ⟨fd, F⟩ := c.fun_ (st := (sInit1 7)) (d := dM "BadImage" "__init__" "BadImage.__init__" (sInit1 7)) (List.mem_of_getElem? (i := 15) rfl) rfl rfl rfl
    exact ⟨fd, F.binds (ps := ["self", "line"]) fun _ _ _ _ _ _ us hl => match us, hl with | [_, _], _ => rfl, ok_i1_7 F (xcB_ok (k1 "BadImage" (mem_told hp)).1).o (k4 _ hp).2.2⟩
  · obtain ⟨fd, F⟩ := c.fun_ (st := (sInit1 8)) (d := dM "Unsound" "__init__" "Unsound.__init__" (sInit1 8)) (List.mem_of_getElem? (i := 16) rfl) rfl rfl rfl
    exact ⟨fd, F.binds (ps := ["self", "sentence"]) fun _ _ _ _ _ _ us hl => match us, hl with | [_, _], _ => rfl, ok_i1_8 F (xcB_ok (k1 "Unsound" (mem_told hp)).1).o (k4 _ hp).2.2⟩
  · obtain ⟨fd, F⟩ := c.fun_ (st := (sInit1 9)) (d := dM "BadLine" "__init__" "BadLine.__init__" (sInit1 9)) (List.mem_of_getElem? (i := 17) rfl) rfl rfl rfl
    exact ⟨fd, F.binds (ps := ["self", "line"]) fun _ _ _ _ _ _ us hl => match us, hl with | [_, _], _ => rfl, ok_i1_9 F (xcB_ok (k1 "BadLine" (mem_told hp)).1).o (k4 _ hp).2.2⟩
  · obtain ⟨fd, F⟩ := c.fun_ (st := (sInit1 10)) (d := dM "BadRows" "__init__" "BadRows.__init__" (sInit1 10)) (List.mem_of_getElem? (i := 18) rfl) rfl rfl rfl
    exact ⟨fd, F.binds (ps := ["self", "at"]) fun _ _ _ _ _ _ us hl => match us, hl with | [_, _], _ => rfl, ok_i1_10 F (xcB_ok (k1 "BadRows" (mem_told hp)).1).o (k4 _ hp).2.2⟩
theorem facts {f : Addr} (X : K.In h) (G : h.Ns mainGlobals mg) (hfa : mg ("law" : Str) = some (.ref f)) (c : SaysY fa fn exK K) :
    ∃ fd : FuncData, (∀ (s : Shared) (v : Value), BindsTo s fd ⟨[v], []⟩ [("script", v)]) ∧ ∀ base : Heap, K.In base → base.Ns mainGlobals mg → FnOk P w K mg base CX0 4 f fd ["script"] (spLaw K) := by
  obtain ⟨fdB, FB⟩ := c.fun_ (st := sBag) (d := dD "_law_bag" sBag) (List.mem_of_getElem? (i := 0) rfl) rfl rfl rfl
  obtain ⟨fdP, FP⟩ := c.fun_ (st := sPick) (d := dD "_law_pick" sPick) (List.mem_of_getElem? (i := 1) rfl) rfl rfl rfl
  obtain ⟨fdS, FS⟩ := c.fun_ (st := sSome) (d := dD "_law_some" sSome) (List.mem_of_getElem? (i := 2) rfl) rfl rfl rfl
  obtain ⟨fdPl, FPl⟩ := c.fun_ (st := sPlain) (d := dD "_law_plain" sPlain) (List.mem_of_getElem? (i := 3) rfl) rfl rfl rfl
  obtain ⟨fdT, FT⟩ := c.fun_ (st := sTold) (d := dD "_law_told" sTold) (List.mem_of_getElem? (i := 4) rfl) rfl rfl rfl
  obtain ⟨fdF, FF⟩ := c.fun_ (st := sFlags) (d := dD "_law_flags" sFlags) (List.mem_of_getElem? (i := 5) rfl) rfl rfl rfl
  obtain ⟨fd, F⟩ := c.fun_ (st := sLaw) (d := dD "law" sLaw) (List.mem_of_getElem? (i := 6) rfl) rfl rfl rfl
  have g : ∀ {x : Str}, x ∈ (["_law_bag", "_law_pick", "_law_some", "_law_plain", "_law_told", "_law_flags", "law", "PostError"] : List Str) ++ errN → mg x = some (.ref (ga K x)) := fun hx => glo_in X G c (mem_fa_glo hx)
  have fr : ∀ {x : Str}, x ∈ freeN → mg x = none := fun hx => free_in X G c (mem_fa_free hx)
  have e := hfa.symm.trans (g (x := "law") (by decide +kernel))
  cases e
  have b := F.binds (ps := ["script"]) fun _ _ _ _ _ _ us hl => match us, hl with | [_], _ => rfl
  refine ⟨fd, fun s v => ?_, fun base _ _ => ?_⟩
  · obtain ⟨oc, od, kV, doc, pm, an, cdv, ct, osl, rfl, lk, hcd⟩ := F.ex
    exact .of_eq rfl
  · exact ok_law F ⟨fr (by decide +kernel), fr (by decide +kernel), fr (by decide +kernel)⟩ (errTxt X G c)
      ⟨g (by decide +kernel), g (by decide +kernel), g (by decide +kernel), g (by decide +kernel), g (by decide +kernel), g (by decide +kernel), fr (by decide +kernel), fr (by decide +kernel), fr (by decide +kernel), fr (by decide +kernel)⟩ FB FP FS FPl FT FF
end
end L2.My

set_option Elab.async false
set_option linter.all false
set_option maxRecDepth 100000
set_option maxHeartbeats 0
namespace L2.My
open PySem PySem.Spec PyProof.Rows He
theorem run (w : World) : HandSHeadRun.RunEq R (PySem.W.view R.prog [41]) hk ob 12000 ((["_law_bag", "_law_pick", "_law_some", "_law_plain", "_law_told", "_law_flags", "PostError", "NoKind", "NoParts", "NoTerm", "NoTerms", "NoBag", "NoBags", "NoName", "NoLock", "NoLeaf", "NoNode", "Named", "TreeFull", "NoLocks"] : List PySem.Str) ++ (["NoRoom", "NoWords", "NoLetter", "Unknown", "NoLot", "NoFact", "NoTheft", "NoEpoch", "BadTerm", "TooLong", "BadTree", "BadWorld", "BadWish", "BadRule", "TooMany", "BadImage", "Unsound", "BadLine", "BadRows"] : List PySem.Str)) w := by
  intro os
  kernel_rfl
end L2.My
open PySem PySem.W PySem.Calls PyProof.Rows
theorem PySem.Challenge.cw_strangerspost_k00_errors_and_their_field_holds : PySem.Challenge.rw_strangerspost_k00_errors_and_their_field.Holds := by
  w_on; o_law
  refine HandSHeadRun.head_any (r := OpenLaw.row PySem.Challenge.rw_strangerspost_k00_errors_and_their_field) (q := view (OpenLaw.row PySem.Challenge.rw_strangerspost_k00_errors_and_their_field).prog [41]) (H := L2.My.hk) (ob := L2.My.ob) (M := 12000) (loose := ((["_law_bag", "_law_pick", "_law_some", "_law_plain", "_law_told", "_law_flags", "PostError", "NoKind", "NoParts", "NoTerm", "NoTerms", "NoBag", "NoBags", "NoName", "NoLock", "NoLeaf", "NoNode", "Named", "TreeFull", "NoLocks"] : List PySem.Str) ++ (["NoRoom", "NoWords", "NoLetter", "Unknown", "NoLot", "NoFact", "NoTheft", "NoEpoch", "BadTerm", "TooLong", "BadTree", "BadWorld", "BadWish", "BadRule", "TooMany", "BadImage", "Unsound", "BadLine", "BadRows"] : List PySem.Str))) (d := HandSHeadRun.topDef (OpenLaw.row PySem.Challenge.rw_strangerspost_k00_errors_and_their_field).prog 41) (kwd := []) L2.My.ob_eq
    (by kernel_rfl) (fun s => by kernel_rfl) L2.My.run (by kernel_rfl) (by kernel_rfl) (by kernel_rfl) (by rfl) (by first | assumption | decide +kernel) (by decide +kernel) ⟨rfl, rfl, rfl, rfl, rfl, by decide +kernel⟩ ?hw ?hc
  case hw => w_witness2
  case hc =>
    refine L2.walk_ofE (l := PySem.Challenge.rw_strangerspost_k00_errors_and_their_field) (n := 63) (k := 4) (x := "script") (CX := L2.CX0) rfl (by decide) (by kernel_rfl) ⟨rfl, by decide, by decide⟩ ?F (fun _ _ _ _ z => z)
    intro w mg fa h Y G hmg0
    obtain ⟨K, KX, c⟩ := Y
    have hmg : mg ("law" : PySem.Str) = some (.ref fa) := by
      have e : (HandSHeadRun.topDef (OpenLaw.row PySem.Challenge.rw_strangerspost_k00_errors_and_their_field).prog 41).name = ("law" : PySem.Str) := by kernel_rfl
      rw [← e]
      exact hmg0
    obtain ⟨fd, hb, hF⟩ := L2.My.facts (P := (PySem.Challenge.rw_strangerspost_k00_errors_and_their_field).prog) (w := w) KX G hmg c
    exact ⟨K, fd, L2.My.spLaw K, KX, hb, fun H a ns hl _ hS => ⟨a, ns, rfl, hS, hl, fun _ => rfl⟩, hF⟩
