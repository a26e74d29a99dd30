import PyProof.Rows.All
import Wide.All
import OpenK.AllK
import Wide.FinOn
import HandS.ForMost
import HandS.Exc
import HandS.Dict
import HandS.Iter
import HandS.Walk
import HandS.DictComp
import HandS.Deep
import HandS.SetFor
import HandS.SortKw
import HandS.ExcValue
import KE.KExcIs
import HandS.ExcInit
import HandS.IsInst
import HandS.ExcIs
import HandS.Lambda
import HandS.HeadHook4
import HandS.Comp
import HandS.Style
import HandS.WordsExc
import HandS.OwnEq
import HandS.More
import HandS.WrittenGet
import HandS.Sort
import HandS.Steps
import HandS.SortInts
import HandS.Conv
import HandS.WordsDict
import HandS.TupAny
import HandS.TupMul
import HandS.HeadEnd
import HandS.Head2
import HandS.HeadHook3
import HandS.NestedK
import HandS.HeadWalk
import PySem.Challenge.RW_strangerspost_k01_books_by_own_account
section
set_option Elab.async false
set_option linter.all false
set_option maxRecDepth 100000
set_option maxHeartbeats 4000000
/-! A dict whose keys are pairs of a text and a tuple of texts and ints. -/
namespace L2.My
open PySem PySem.Spec PyProof.Rows
abbrev Ent : Type := Str × List Key
section
variable {prog : Program} {w : World}
def IsEnt (prog : Program) (w : World) (h : Heap) (k : Ent) (a : Addr) : Prop := ∃ o t p n, h.get? a = some o ∧ o.cls = .type "tuple" ∧ o.data = .seq #[.str k.1 t, .ref p] n ∧ IsTupleKey (mixKind prog w) h k.2 p
theorem IsEnt.typeIs {s : Shared} {k : Ent} {a : Addr} (x : IsEnt prog w s.heap k a) : s.TypeIs (.ref a) "tuple" := let ⟨o, _, _, _, ho, hc, _⟩ := x; ⟨o, ho, hc⟩
theorem IsEnt.inj {h : Heap} {a : Addr} {x y : Ent} (hx : IsEnt prog w h x a) (hy : IsEnt prog w h y a) : x = y := by
  obtain ⟨o, t, p, n, ho, _, hd, hi⟩ := hx
  obtain ⟨o', t', p', n', ho', _, hd', hi'⟩ := hy
  obtain rfl : o = o' := Option.some.inj (ho.symm.trans ho')
  rw [hd] at hd'
  injection hd' with h1 _
  have h2 : [Value.str x.1 t, .ref p] = [Value.str y.1 t', .ref p'] := congrArg Array.toList h1
  injection h2 with h3 h4
  injection h3 with h3 _
  injection h4 with h4 _
  injection h4 with h4
  subst h4
  exact Prod.ext h3 (hi.inj hi')
theorem IsEnt.keeps {h h' : Heap} {k : Ent} {a d : Addr} {o : Obj} {es ep} (x : IsEnt prog w h k a) (ho : h.get? d = some o) (hd : o.data = .dict es ep) (hs : Heap.SameBut d h h') : IsEnt prog w h' k a := by
  obtain ⟨o', t, p, n, ho', hc, hd', hi⟩ := x
  have hne : a ≠ d := by
    rintro rfl
    obtain rfl : o' = o := Option.some.inj (ho'.symm.trans ho)
    rw [hd] at hd'; exact nomatch hd'
  exact ⟨o', t, p, n, (hs.2 a hne).trans ho', hc, hd', hi.keeps ho hd hs⟩
variable {A : Around} {E : Value → Shared → Prop} {s : Shared}
def entHash (prog : Program) (w : World) (k : Ent) : Int := reduceHash (Builtin.Tuple.tupleHashOf [hashStr w k.1, tupleKeyHash (mixKind prog w) k.2])
theorem pyHash_ent {k : Ent} {a : Addr} {Q : Int → Shared → Prop} (hu : A.units + 1 < cLine) (hk : IsEnt prog w s.heap k a) (h : Q (entHash prog w k) { s with toks := s.toks + (k.2.length + 3) }) :
    wpAny (model prog w) A (pyHash (.ref a)) Q E s := by
  have hT := hk.typeIs
  obtain ⟨o, t, p, n, ho, _, hd, hi⟩ := hk
  unfold pyHash
  first | unfold pyHashByItsType | skip
  first | refine wpAny_bind (wpAny_cRoomFor_or (.inr (by omega)) ?_) | skip
  refine wpAny_bind (wpAny_specialOf hT F.slot_tuple_hash.lookup ?_)
  show wpAny _ _ (if (some (Value.builtin "tuple.__hash__") == some Value.none) = true then _ else _) Q E s
  rw [if_neg (by rw [beq_builtin_none]; exact Bool.false_ne_true)]
  refine wpAny_bind (wpAny_specialOf hT F.slot_tuple_hash.lookup ?_)
  show wpAny _ _ (callSpecialIfBoundUnlessNone? (.ref a) "__hash__" _ >>= _) Q E s
  refine wpAny_bind (wpAny_callSpecialIfBoundUnlessNone?_slot hT F.slot_tuple_hash (wpAny_call_entry F.slot_tuple_hash hT F.entry_tuple_hash ?_ (F.args_tuple_hash_1 _)))
  show wpAny _ _ (Builtin.Tuple.tupleItemsOf (.ref a) >>= _) _ _ s
  refine wpAny_bind (wpAny_tupleItemsOf ho hd ?_)
  refine wpAny_bind ?_
  rw [← Array.forIn_toList]
  show wpAny _ _ (forIn [Value.str k.1 t, Value.ref p] _ _) _ _ s
  rw [List.forIn_cons]
  refine wpAny_bind (wpAny_bind (wpAny_pyHash_str ?_))
  refine wpAny_pure ?_
  show wpAny _ _ (forIn [Value.ref p] _ _) _ _ _
  rw [List.forIn_cons]
  refine wpAny_bind (wpAny_bind (wpAny_pyHash_tuple (knd := mixKind prog w) (ks := k.2) (show A.in1.units < cLine from hu) hi ?_))
  refine wpAny_pure ?_
  show wpAny _ _ (forIn ([] : List Value) _ _) _ _ _
  rw [List.forIn_nil]
  refine wpAny_pure ?_
  show wpAny _ _ (retInt (Builtin.Tuple.tupleHashOf [hashStr w k.1, tupleKeyHash (mixKind prog w) k.2])) _ _ _
  refine wpAny_ret_mkInt ?_
  show wpAny _ _ (if (decide (-(2 : Int) ^ 63 ≤ Builtin.Tuple.tupleHashOf [hashStr w k.1, tupleKeyHash (mixKind prog w) k.2]) && decide (Builtin.Tuple.tupleHashOf [hashStr w k.1, tupleKeyHash (mixKind prog w) k.2] < 2 ^ 63)) = true then _ else _) Q E _
  unfold entHash reduceHash at h
  by_cases hr : (decide (-(2 : Int) ^ 63 ≤ Builtin.Tuple.tupleHashOf [hashStr w k.1, tupleKeyHash (mixKind prog w) k.2]) && decide (Builtin.Tuple.tupleHashOf [hashStr w k.1, tupleKeyHash (mixKind prog w) k.2] < 2 ^ 63)) = true
  · rw [if_pos hr]
    rw [if_pos hr] at h
    exact wpAny_pure (by simpa [Nat.add_assoc, Nat.add_comm, Nat.add_left_comm] using h)
  · rw [if_neg hr]
    rw [if_neg hr] at h
    exact wpAny_bind (wpAny_rule (wpAny_pure (by simpa [Nat.add_assoc, Nat.add_comm, Nat.add_left_comm] using h)))
theorem eq_tree {x y : Ent} {a b : Addr} {P : Fin → Shared → Prop} (hu : A.units < cLine) (hx : IsEnt prog w s.heap x a) (hy : IsEnt prog w s.heap y b) (h : P (.done (.ret (.bool (decide (x = y))))) s) :
    wpAny (model prog w) A (Builtin.«tuple.__eq__» ⟨[.ref a, .ref b], []⟩) P E s := by
  have hTb := hy.typeIs
  obtain ⟨oa, ta, pa, na, hoa, _, hda, hia⟩ := hx
  obtain ⟨ob, tb, pb, nb, hob, _, hdb, hib⟩ := hy
  show wpAny _ _ (isInstance (.ref b) (.type "tuple") >>= _) _ _ s
  refine wpAny_bind (wpAny_isInstance hTb isSubtype_tuple_tuple ?_)
  simp only [Bool.not_true, Bool.false_eq_true, if_false]
  refine wpAny_bind (wpAny_tupleItemsOf hoa hda ?_)
  refine wpAny_bind (wpAny_tupleItemsOf hob hdb ?_)
  refine wpAny_bind ?_
  show wpAny _ _ (forIn [(Value.str x.1 ta, Value.str y.1 tb), (Value.ref pa, Value.ref pb)] _ _) _ _ s
  rw [List.forIn_cons]
  refine wpAny_bind (wpAny_bind (wpAny_eqBool_str ?_))
  by_cases e1 : x.1 = y.1
  · rw [decide_eq_true e1]
    simp only [Bool.not_true, Bool.false_eq_true, if_false]
    refine wpAny_pure ?_
    show wpAny _ _ (forIn [(Value.ref pa, Value.ref pb)] _ _) _ _ _
    rw [List.forIn_cons]
    refine wpAny_bind (wpAny_bind (wpAny_eqBool_tuple (knd := mixKind prog w) (x := x.2) (y := y.2) hu hia hib ?_))
    by_cases e2 : x.2 = y.2
    · rw [decide_eq_true e2]
      have e : x = y := Prod.ext e1 e2
      rw [decide_eq_true e] at h
      simp only [Bool.not_true, Bool.false_eq_true, if_false]
      refine wpAny_pure ?_
      show wpAny _ _ (forIn ([] : List (Value × Value)) _ _) _ _ _
      rw [List.forIn_nil]
      exact wpAny_pure (wpAny_pure h)
    · rw [decide_eq_false e2]
      have e : ¬ x = y := fun z => e2 (congrArg Prod.snd z)
      rw [decide_eq_false e] at h
      simp only [Bool.not_false, if_true]
      exact wpAny_bind (wpAny_pure (wpAny_pure (wpAny_pure (wpAny_pure h))))
  · rw [decide_eq_false e1]
    have e : ¬ x = y := fun z => e1 (congrArg Prod.fst z)
    rw [decide_eq_false e] at h
    simp only [Bool.not_false, if_true]
    exact wpAny_bind (wpAny_pure (wpAny_pure (wpAny_pure (wpAny_pure h))))
theorem eqBool_ent {x y : Ent} {a b : Addr} {Q : Bool → Shared → Prop} (hu : A.units + 1 < cLine) (hx : IsEnt prog w s.heap x a) (hy : IsEnt prog w s.heap y b) (h : Q (decide (x = y)) s) :
    wpAny (model prog w) A (eqBool (.ref a) (.ref b)) Q E s := by
  unfold eqBool
  try with_reducible refine wpAny_holding ?_
  show wpAny _ _ (if (Value.ref a == Value.ref b) = true then _ else _) Q E s
  by_cases hab : (Value.ref a == Value.ref b) = true
  · rw [if_pos hab]
    have e : a = b := by have := eq_of_beq hab; injection this
    subst e
    obtain rfl := hx.inj hy
    exact wpAny_bind (wpAny_rule (wpAny_pure (by simpa using h)))
  · rw [if_neg hab]
    exact wpAny_bind (wpAny_richCompare_same_room (op := .Eq) hx.typeIs hy.typeIs F.slot_tuple_eq
      (wpAny_call_entry F.slot_tuple_eq hx.typeIs F.entry_tuple_eq (eq_tree (show A.in1.units < cLine from hu) hx hy ⟨_, rfl, (fun e => nomatch e), wpAny_truthy_bool h⟩) (F.args_tuple_eq_2 _ _)) (by omega))
theorem eqIsQuiet_tuple {K : Type} [DecidableEq K] {knd : KeyKind prog w K} (m : Nat) {ks : List K} {a : Addr} {Q : Bool → Shared → Prop} (hk : IsTupleKey knd s.heap ks a) (h : Q true s) : wpAny (model prog w) A (eqIsQuiet (m + 1) (.ref a)) Q E s := by
  have hT := hk.typeIs
  obtain ⟨o, items, n, ho, _, hd, hi⟩ := hk
  unfold eqIsQuiet
  refine wpAny_bind (wpAny_specialOf hT F.slot_tuple_eq.lookup ?_)
  show wpAny _ _ (isInstance (.ref a) (.type "tuple") >>= _) _ _ s
  refine wpAny_bind (wpAny_isInstance hT isSubtype_tuple_tuple ?_)
  simp only [Bool.not_true, Bool.false_eq_true, if_false]
  refine wpAny_bind (wpAny_seqItems ho hd ?_)
  refine wpAny_bind ?_
  show wpAny _ _ (forIn items _ _) _ _ s
  rw [← Array.forIn_toList]
  refine wpAny_forIn_list _ (fun rest r s' => r.1 = none ∧ s' = s ∧ ∀ v ∈ rest, carriedByValue v = true) _ ?_ ?_ _ _ ⟨rfl, rfl, hi.byValue⟩
  · rintro v rest r s' ⟨hr, rfl, hall⟩
    rw [eqIsQuiet_byValue _ (hall v List.mem_cons_self)]
    refine wpAny_bind (wpAny_pure ?_)
    simp only [Bool.not_true, Bool.false_eq_true, if_false]
    exact wpAny_pure ⟨rfl, rfl, fun u hu' => hall u (List.mem_cons_of_mem _ hu')⟩
  · rintro ⟨r1, r2⟩ s' ⟨hr, rfl, _⟩
    simp only at hr
    subst hr
    exact wpAny_pure h
theorem eqIsQuiet_ent {k : Ent} {a : Addr} {Q : Bool → Shared → Prop} (hk : IsEnt prog w s.heap k a) (h : Q true s) : wpAny (model prog w) A (eqIsQuiet 8 (.ref a)) Q E s := by
  have hT := hk.typeIs
  obtain ⟨o, t, p, n, ho, _, hd, hi⟩ := hk
  unfold eqIsQuiet
  refine wpAny_bind (wpAny_specialOf hT F.slot_tuple_eq.lookup ?_)
  show wpAny _ _ (isInstance (.ref a) (.type "tuple") >>= _) _ _ s
  refine wpAny_bind (wpAny_isInstance hT isSubtype_tuple_tuple ?_)
  simp only [Bool.not_true, Bool.false_eq_true, if_false]
  refine wpAny_bind (wpAny_seqItems ho hd ?_)
  refine wpAny_bind ?_
  show wpAny _ _ (forIn #[Value.str k.1 t, Value.ref p] _ _) _ _ s
  rw [← Array.forIn_toList]
  show wpAny _ _ (forIn [Value.str k.1 t, Value.ref p] _ _) _ _ s
  rw [List.forIn_cons, eqIsQuiet_byValue _ (show carriedByValue (Value.str k.1 t) = true from rfl)]
  refine wpAny_bind (wpAny_bind (wpAny_pure ?_))
  simp only [Bool.not_true, Bool.false_eq_true, if_false]
  refine wpAny_pure ?_
  show wpAny _ _ (forIn [Value.ref p] _ _) _ _ s
  rw [List.forIn_cons]
  refine wpAny_bind (wpAny_bind (eqIsQuiet_tuple (knd := mixKind prog w) _ hi ?_))
  simp only [Bool.not_true, Bool.false_eq_true, if_false]
  refine wpAny_pure ?_
  show wpAny _ _ (forIn ([] : List Value) _ _) _ _ s
  rw [List.forIn_nil]
  exact wpAny_pure (wpAny_pure h)
end
def entKind (prog : Program) (w : World) : HeapKind prog w Ent where
  is := IsEnt prog w
  hash := entHash prog w
  draws := fun k => k.2.length + 3
  room := fun A => A.units + 1 < cLine
  inj := fun hx hy => hx.inj hy
  keeps := fun x ho hd hs => x.keeps ho hd hs
  pyHash := fun hu hk h => pyHash_ent hu hk h
  eqBool := fun hu hx hy h => eqBool_ent hu hx hy h
  quiet := fun hk h => eqIsQuiet_ent hk h
end L2.My
end
section
set_option Elab.async false
set_option linter.all false
set_option maxRecDepth 100000
set_option maxHeartbeats 4000000
namespace L2.My
open PySem PySem.Spec PyProof.Rows
/-- a pair of a text and a tuple at a -/
def EntAt (H : Hp) (a : Addr) (e : Ent) : Prop := ∃ p, H a = some (.tup [.str e.1, .ref p]) ∧ H p = some (.tup (e.2.map kV))
abbrev NRel : List (Ent × Addr × V) → List (Ent × Addr × Value) → Prop := Paired fun p q => p.1 = q.1 ∧ p.2.1 = q.2.1 ∧ RelV p.2.2 q.2.2
/-- the dict at a: keys, their own pairs, values, in order -/
def NumO (P : Program) (w : World) (a : Addr) (kvs : List (Ent × Addr × V)) : HO := .ext fun h => (kvs.length ≤ sizeLine ∧ (a == sysModules) = false ∧ (kvs.map (·.1)).Nodup) ∧ ∃ xs o es ep, NRel kvs xs ∧ h.get? a = some o ∧ o.ExactDict ∧ o.data = .dict es ep ∧ es.toList = xs.map (entryOfKey (entKind P w))
def NumAt (P : Program) (w : World) (H : Hp) (a : Addr) (kvs : List (Ent × Addr × V)) : Prop := H a = some (NumO P w a kvs) ∧ ∀ x ∈ kvs, EntAt H x.2.1 x.1
def NumRd (P : Program) (w : World) (H : Hp) (a : Addr) (kvs : List (Ent × Addr × V)) : Prop := Rd H a (NumO P w a kvs) ∧ ∀ x ∈ kvs, EntAt H x.2.1 x.1
theorem NumAt.rd {P : Program} {w : World} {H : Hp} {a : Addr} {kvs : List (Ent × Addr × V)} (g : NumAt P w H a kvs) : NumRd P w H a kvs := ⟨.inl g.1, g.2⟩
theorem NRel.keys {kvs : List (Ent × Addr × V)} {xs : List (Ent × Addr × Value)} (r : NRel kvs xs) : kvs.map (·.1) = xs.map (·.1) := by
  induction r with
  | nil => rfl
  | cons h t ih => rw [List.map_cons, List.map_cons, ih, h.1]
theorem NRel.mem {kvs : List (Ent × Addr × V)} {xs : List (Ent × Addr × Value)} (r : NRel kvs xs) : ∀ x ∈ xs, ∃ p ∈ kvs, p.1 = x.1 ∧ p.2.1 = x.2.1 := by
  induction r with
  | nil => intro x hx; exact nomatch hx
  | @cons p q ps qs h t ih =>
    intro x hx
    rcases List.mem_cons.mp hx with rfl | hx
    · exact ⟨p, List.mem_cons_self, h.1, h.2.1⟩
    · obtain ⟨p', hp, e⟩ := ih x hx
      exact ⟨p', List.mem_cons_of_mem _ hp, e⟩
def valN (kvs : List (Ent × Addr × V)) (k : Ent) : Option V := (kvs.find? fun x => decide (x.1 = k)).map (·.2.2)
theorem NRel.val {kvs : List (Ent × Addr × V)} {xs : List (Ent × Addr × Value)} (r : NRel kvs xs) (k : Ent) : RelO (valN kvs k) ((atKey xs k).map (·.2)) := by
  induction r with
  | nil => exact True.intro
  | @cons p q ps qs h t ih =>
    obtain ⟨h1, _, h2⟩ := h
    by_cases e : p.1 = k
    · have e' : q.1 = k := h1.symm.trans e
      have a1 : valN (p :: ps) k = some p.2.2 := by simp [valN, List.find?_cons, e]
      have a2 : (atKey (q :: qs) k).map (·.2) = some q.2.2 := by simp [atKey, List.find?_cons, e']
      rw [a1, a2]
      exact h2
    · have e' : ¬ q.1 = k := fun z => e (h1.trans z)
      simpa [valN, atKey, List.find?_cons, e, e'] using ih
section
variable {P : Program} {w : World} {H : Hp} {h : Heap} {a : Addr}
theorem ent_is {e : Ent} (ok : HOk P w H h) (x : EntAt H a e) : IsEnt P w h e a := by
  obtain ⟨p, h1, h2⟩ := x
  obtain ⟨_, its, r, o, g1, g2, n, g3⟩ := (show ObjOk P w H h a (.tup [.str e.1, .ref p]) from ok a _ h1)
  cases r with
  | @cons _ u1 _ us r1 t1 =>
    cases t1 with
    | @cons _ u2 _ us2 r2 t2 =>
      cases t2
      obtain ⟨t, rfl⟩ := (show ∃ t, u1 = Value.str e.1 t from r1)
      cases (show u2 = Value.ref p from r2)
      exact ⟨o, t, p, n, g1, g2, g3, key_of ok h2⟩
theorem num_of {kvs : List (Ent × Addr × V)} (ok : HOk P w H h) (x : Rd H a (NumO P w a kvs)) (hk : ∀ x ∈ kvs, EntAt H x.2.1 x.1) :
    kvs.length ≤ sizeLine ∧ (a == sysModules) = false ∧ ∃ xs, NRel kvs xs ∧ h.DictOfH (entKind P w) a xs := by
  obtain ⟨⟨⟨z, y, nd⟩, xs, o, es, ep, r, h1, h2, h3, h4⟩, _⟩ := (show ObjOk P w H h a (NumO P w a kvs) from rd_of ok x)
  refine ⟨z, y, xs, r, o, es, ep, h1, h2, h3, h4, fun x hx => ?_, ?_⟩
  · obtain ⟨p, hp, e1, e2⟩ := r.mem x hx
    have q := ent_is ok (hk p hp)
    rw [e1, e2] at q
    exact q
  · rw [← NRel.keys r]; exact nd
theorem num_ok {kvs : List (Ent × Addr × V)} {xs : List (Ent × Addr × Value)} {H' : Hp} {h' : Heap} (z : kvs.length ≤ sizeLine) (y : (a == sysModules) = false) (r : NRel kvs xs) (dd : h'.DictOfH (entKind P w) a xs) : ObjOk P w H' h' a (NumO P w a kvs) := by
  obtain ⟨o, es, ep, h1, h2, h3, h4, _, h5⟩ := dd
  refine ⟨⟨⟨z, y, by rw [NRel.keys r]; exact h5⟩, xs, o, es, ep, r, h1, h2, h3, h4⟩, ⟨o, h1⟩, ?_⟩
  rintro g1 g2 ⟨zz, xs, o, es, ep, r, e1, e2⟩ k
  exact ⟨zz, xs, o, es, ep, r, k o e1, e2⟩
theorem num_empty (h : Heap) (hb : sysModules < h.objs.size) : ObjOk P w H (h.push { cls := .type "dict", data := .dict #[] }) h.objs.size (NumO P w h.objs.size []) :=
  num_ok (Nat.zero_le _) (beq_eq_false_iff_ne.mpr (Ne.symm (Nat.ne_of_lt hb))) .nil (Heap.DictOfH.new h)
theorem valN_none {kvs : List (Ent × Addr × V)} {k : Ent} (h : k ∉ kvs.map (·.1)) : valN kvs k = none := by
  have e : kvs.find? (fun x => decide (x.1 = k)) = none := by
    rw [List.find?_eq_none]
    intro x hx hk
    exact h (List.mem_map.mpr ⟨x, hx, of_decide_eq_true hk⟩)
  rw [valN, e]; rfl
theorem valN_none' {kvs : List (Ent × Addr × V)} {k : Ent} (h : valN kvs k = none) : k ∉ kvs.map (·.1) := by
  intro hm
  obtain ⟨x, hx, rfl⟩ := List.mem_map.mp hm
  unfold valN at h
  rw [Option.map_eq_none_iff, List.find?_eq_none] at h
  exact h x hx (decide_eq_true rfl)
theorem stored_new {kvs : List (Ent × Addr × V)} {xs : List (Ent × Addr × Value)} {k : Ent} {b : Addr} {v : V} {u : Value} (r : NRel kvs xs) (hn : k ∉ kvs.map (·.1)) (rv : RelV v u) : NRel (kvs ++ [(k, b, v)]) (storedH xs k b u) := by
  have q := NRel.val r k
  rw [valN_none hn] at q
  have e : atKey xs k = none := by
    have := RelO.none_of q
    rwa [Option.map_eq_none_iff] at this
  rw [storedH_new e]
  exact Paired.snoc r ⟨rfl, rfl, rv⟩
end
section
variable {X : Cx} {pins : List (Addr × Obj)} {σ : St} {H : Hp} {s : Shared} {a b : Addr} {y v : V} {u r : Value} {A : Around} {E : Value → Shared → Prop} {kvs : List (Ent × Addr × V)} {k : Ent}
theorem n_get {Q : Value → Shared → Prop} (hu : A.units + 2 < cLine) (I : Inv X pins σ H s) (g : NumRd X.prog X.w H a kvs) (hb : EntAt H b k) (h : ∀ w' s', Inv X pins σ H s' → RelV ((valN kvs k).getD .non) w' → Q w' s') :
    wpAny (model X.prog X.w) A (call (.builtin "dict.get") [.ref a, .ref b]) Q E s := by
  obtain ⟨z, hd, xs, rel, dd⟩ := num_of I.hok g.1 g.2
  exact call_meetsIn PySem.F.slot_dict_get dd.typeIs PySem.F.entry_dict_get (PySem.F.args_dict_get_2 _ _) (meetsH_dict_get (entKind X.prog X.w) a b hd) ⟨(show A.units + 1 + 1 < cLine from hu), k, xs, ent_is I.hok hb, dd, h _ _ (I.tok _) ((NRel.val rel k).getD rfl)⟩
theorem n_getItem {Q : Value → Shared → Prop} (hu : A.units + 2 < cLine) (I : Inv X pins σ H s) (g : NumRd X.prog X.w H a kvs) (hb : EntAt H b k) (hv : valN kvs k = some v) (h : ∀ w' s', Inv X pins σ H s' → RelV v w' → Q w' s') :
    wpAny (model X.prog X.w) A (getItem (.ref a) (.ref b)) Q E s := by
  obtain ⟨z, hd, xs, rel, dd⟩ := num_of I.hok g.1 g.2
  have q := NRel.val rel k
  rw [hv] at q
  obtain ⟨w', hw, rw'⟩ := RelO.some_of (v := v) (o := (atKey xs k).map (·.2)) q
  obtain ⟨p, hp, hp2⟩ := Option.map_eq_some_iff.mp hw
  refine wpAny_getItem_heap (show A.units + 1 + 1 < cLine from hu) (ent_is I.hok hb) dd hp ?_
  rw [hp2]
  exact h w' _ (I.tok _) rw'
theorem n_setItem {Q : Unit → Shared → Prop} (hu : A.units + 2 < cLine) (I : Inv X pins σ H s) (g : NumAt X.prog X.w H a kvs) (hb : EntAt H b k) (hn : k ∉ kvs.map (·.1)) (hz : kvs.length < sizeLine) (rv : RelV v r)
    (h : ∀ s', Inv X pins σ (upd H a (NumO X.prog X.w a (kvs ++ [(k, b, v)]))) s' → Q () s') : wpAny (model X.prog X.w) A (setItem (.ref a) (.ref b) r) Q E s := by
  obtain ⟨z, hd, xs, rel, dd⟩ := num_of I.hok (.inl g.1) g.2
  have hz' : xs.length ≤ sizeLine := by rw [← Paired.length rel]; exact z
  refine wpAny_setItem_heap (hsz := hz') (show A.units + 1 + 1 < cLine from hu) (ent_is I.hok hb) dd fun h' dd' hs => h _ ?_
  refine d_write I (by rw [g.1]; exact True.intro) hs (let ⟨q, _, _, hq, _⟩ := dd'; ⟨q, hq⟩) (num_ok ?_ hd (stored_new rel hn rv) dd')
  rw [List.length_append]; exact hz
theorem n_dictSet {Q : Unit → Shared → Prop} (hu : A.units + 2 < cLine) (I : Inv X pins σ H s) (g : NumAt X.prog X.w H a kvs) (hb : EntAt H b k) (hn : k ∉ kvs.map (·.1)) (hz : kvs.length < sizeLine) (rv : RelV v r)
    (h : ∀ s', Inv X pins σ (upd H a (NumO X.prog X.w a (kvs ++ [(k, b, v)]))) s' → Q () s') : wpAny (model X.prog X.w) A (dictSet a (.ref b) r) Q E s := by
  obtain ⟨z, hd, xs, rel, dd⟩ := num_of I.hok (.inl g.1) g.2
  have hz' : xs.length ≤ sizeLine := by rw [← Paired.length rel]; exact z
  refine wpAny_dictSet_heap (hsz := hz') (show A.units + 1 < cLine by omega) (ent_is I.hok hb) dd fun h' dd' hs => h _ ?_
  refine d_write I (by rw [g.1]; exact True.intro) hs (let ⟨q, _, _, hq, _⟩ := dd'; ⟨q, hq⟩) (num_ok ?_ hd (stored_new rel hn rv) dd')
  rw [List.length_append]; exact hz
theorem num_typeIs (I : Inv X pins σ H s) (g : NumRd X.prog X.w H a kvs) : s.TypeIs (.ref a) "dict" := by
  obtain ⟨_, _, xs, _, dd⟩ := num_of I.hok g.1 g.2
  exact dd.typeIs
end
/-! ### rules -/
def tNGet (P : Program) (w : World) (td ty : TE) : TE := fun σ H Q => td σ H fun x H1 => ∃ a kvs, x = .ref a ∧ NumRd P w H1 a kvs ∧ ty σ H1 fun y H2 => ∃ b k kvs2, y = .ref b ∧ NumRd P w H2 a kvs2 ∧ EntAt H2 b k ∧ Q ((valN kvs2 k).getD .non) H2
def tNIx (P : Program) (w : World) (td ty : TE) : TE := fun σ H Q => td σ H fun x H1 => ty σ H1 fun y H2 => ∃ a b k kvs v, x = .ref a ∧ y = .ref b ∧ NumRd P w H2 a kvs ∧ EntAt H2 b k ∧ valN kvs k = some v ∧ Q v H2
def sNPut (P : Program) (w : World) (td ty tv : TE) : TS := fun D σ H => tv σ H fun v H1 => td σ H1 fun x H2 => ty σ H2 fun y H3 => ∃ a b k kvs, x = .ref a ∧ y = .ref b ∧ NumAt P w H3 a kvs ∧ EntAt H3 b k ∧ k ∉ kvs.map (·.1) ∧ kvs.length < sizeLine ∧ D.nx σ (upd H3 a (NumO P w a (kvs ++ [(k, b, v)])))
def tNNew (P : Program) (w : World) : TE := fun _ H Q => ∀ p, H p = none → Q (.ref p) (upd H p (NumO P w p []))
section
variable {X : Cx} {o i e f value : Expr} {apos cpos pos pos' : Pos} {td ty tx tv : TE}
theorem pe_nget (hu : X.A.units + 2 < cLine) (ho : PE X o td) (he : PE X e ty) (m : M1 X o "get" apos e cpos) : PE X (.Call (.Attribute o "get" apos) [e] [] cpos) (tNGet X.prog X.w td ty) := by
  refine ⟨fun pins s σ H Q I h => ?_⟩
  refine wpAny_Call_method m.base m.few m.line PySem.F.plainAttrs_dict PySem.F.slot_dict_get PySem.F.type_dict_get (thn (ho.run pins s σ H _ I h) fun u s1 ⟨x, H1, I1, rx, a, kvs, ex, d, q1⟩ => ?_)
  subst ex
  obtain rfl : u = Value.ref a := rx
  refine ⟨num_typeIs I1 d, fun b q => ?_, ?_⟩
  · cases q
    obtain ⟨_, _, xs, _, ob, _, _, h1, h2, _⟩ := num_of I1.hok d.1 d.2
    exact ⟨ob, h1, h2.2.1⟩
  rw [m.trees]
  refine Calls.callWith_builtin rfl (Calls.evalArgs_plain (Calls.spliced_cons (thn (he.run pins s1 σ H1 _ I1 q1) fun iv s2 ⟨y, H2, I2, ry, b, k, kvs2, ey, g, hb, q2⟩ => Calls.spliced_nil ?_)))
  subst ey
  obtain rfl : iv = Value.ref b := ry
  exact n_get hu I2 g hb fun w' s3 I3 rw' => ⟨_, H2, I3, rw', q2⟩
theorem pe_nix (hu : X.A.units + 2 < cLine) (ho : PE X o td) (hi : PE X i ty) (hs : NoSl i) : PE X (.Subscript o i pos) (tNIx X.prog X.w td ty) := by
  refine ⟨fun pins s σ H Q I h => ?_⟩
  refine subD_of PySem.F.slot_dict_getitem.lookup hs (thn (ho.run pins s σ H _ I h) fun u s1 ⟨x, H1, I1, rx, q1⟩ => thn (hi.run pins s1 σ H1 _ I1 q1) fun iv s2 ⟨y, H2, I2, ry, a, b, k, kvs, v, ex, ey, g, hb, hv, q2⟩ => ?_)
  subst ex ey
  obtain rfl : u = Value.ref a := rx
  obtain rfl : iv = Value.ref b := ry
  exact ⟨num_typeIs I2 g, n_getItem hu I2 g hb hv fun w' s3 I3 rw' => ⟨v, H2, I3, rw', q2⟩⟩
theorem ps_nput (hu : X.A.units + 2 < cLine) (ho : PE X o td) (hi : PE X i ty) (hv : PE X value tv) (hs : swapsWith value (some (.Subscript o i pos')) pos.line X.env = pure false) :
    PS X (.Assign [.Subscript o i pos'] value pos) (sNPut X.prog X.w td ty tv) := by
  refine ⟨fun pins s σ H D I h => ?_⟩
  refine wpAny_Assign_Subscript (thn (hv.run pins s σ H _ I h) fun r s1 ⟨v, H1, I1, rv, q1⟩ => thn (ho.run pins s1 σ H1 _ I1 q1) fun u s2 ⟨x, H2, I2, rx, q2⟩ => thn (hi.run pins s2 σ H2 _ I2 q2) fun iv s3 ⟨y, H3, I3, ry, a, b, k, kvs, ex, ey, g, hb, hn, hz, q3⟩ => ?_) hs
  subst ex ey
  obtain rfl : u = Value.ref a := rx
  obtain rfl : iv = Value.ref b := ry
  exact n_setItem hu I3 g hb hn hz rv fun s4 I4 => ⟨σ, _, I4, q3⟩
theorem pe_nnew : PE X (.Dict [] [] pos) (tNNew X.prog X.w) := ⟨fun pins s σ H Q I h =>
  wpAny_Dict_empty ⟨.ref s.heap.objs.size, _, I.laid (a := s.heap.objs.size) (o := NumO X.prog X.w s.heap.objs.size []) (t' := s.toks) (fun _ _ q => Heap.get?_push_of_some _ q) (Nat.le_refl _) (num_empty s.heap I.big), rfl, h _ (I.hok.fresh (Nat.le_refl _))⟩⟩
end
end L2.My
end
section
set_option Elab.async false
set_option linter.all false
set_option maxRecDepth 100000
set_option maxHeartbeats 4000000
namespace L2.My
open PySem PySem.Spec PyProof.Rows
/-! ### walked -/
def Itn (P : Program) (w : World) (d : Addr) (o : Obj) (kvs : List (Ent × Addr × V)) : It :=
  ⟨fun i H => H d = some (.frz o (NumO P w d kvs)) ∧ i < kvs.length, fun i H x H' => H' = H ∧ ∃ k q v, kvs[i]? = some (k, q, v) ∧ x = .ref q, fun i H => H d = some (.frz o (NumO P w d kvs)) ∧ kvs.length ≤ i⟩
section
variable {X : Cx} {pins : List (Addr × Obj)} {σ : St} {H : Hp} {s : Shared} {d : Addr} {o : Obj} {kvs : List (Ent × Addr × V)}
theorem frzN (I : Inv X pins σ H s) (h : H d = some (.frz o (NumO X.prog X.w d kvs))) :
    (d == sysModules) = false ∧ s.heap.get? d = some o ∧ o.ExactDict ∧ ∃ (es : Array DictEntry) (ep : Nat), o.data = .dict es ep ∧ es.size = kvs.length ∧
      ∀ (i : Nat) (k : Ent) (q : Addr) (v : V), kvs[i]? = some (k, q, v) → ∃ (en : DictEntry), es[i]? = some en ∧ en.key = .ref q := by
  obtain ⟨hd, ⟨⟨z, hs, nd⟩, xs, o', es, ep, pr, ho, hx, hdt, he⟩, _⟩ := I.hok d _ h
  rw [hd] at ho
  cases ho
  refine ⟨hs, hd, hx, es, ep, hdt, ?_, fun i k q v e => ?_⟩
  · have l1 : es.size = xs.length := size_of_entries he
    have l2 : kvs.length = xs.length := Paired.length pr
    omega
  · obtain ⟨b, hb, e1, e2, _⟩ := paired_get pr e
    have q' := entry_at he i
    rw [hb] at q'
    refine ⟨_, q', ?_⟩
    show Value.ref b.2.1 = _
    rw [← e2]
end
section
variable {P : Program} {w : World} {K : PySem.W.Frag} {tg : Expr} {d : Addr} {o : Obj} {es : Array DictEntry} {ep : Nat}
theorem turn_keysN {kvs : List (Ent × Addr × V)} (it : Addr) (hod : o.data = .dict es ep) : Turn P w K tg (Itn P w d o kvs) [it] it (fun i h => h.IsKeyIter it d i kvs.length ep) where
  mem := by simp
  obj := fun i h st b hb => by
    have e : b = it := by simpa using hb
    subst e
    obtain ⟨oi, e, c, dd⟩ := st
    exact ⟨oi, e, fun v z => by rw [dd] at z; cases z⟩
  keep := fun i h h' st k => st.at fun oi e => k it (by simp) oi e
  item := by
    intro X hP hw hK hc i pins s σ H E I hf st hg
    subst hP hw hK
    obtain ⟨hd, hi⟩ := hg
    obtain ⟨f0, f1, f2, f3, f4, f5⟩ := hf it (by simp)
    obtain ⟨hs, hgd, hx, es', ep', hdt, hsz, ent⟩ := frzN I hd
    obtain ⟨rfl, rfl⟩ := dict_ep hod hdt
    obtain ⟨⟨k, q, v⟩, hkv⟩ : ∃ p, kvs[i]? = some p := ⟨kvs[i], List.getElem?_eq_getElem hi⟩
    obtain ⟨en, hen, hkey⟩ := ent i k q v hkv
    refine next_key_item st hgd hdt hsz hen fun h' st' sb => ?_
    have I1 : Inv X pins σ H { s with heap := h' } := I.turned (t' := s.toks) (fun b ob hb e => (sb.2 b hb).trans e) f0 f1 f3 f4 f5
    obtain ⟨oi, e, c, dd⟩ := id st'
    exact ⟨en.key, rfl, go_of (s := { s with heap := h' }) e c dd (by decide) ⟨.ref q, H, I1, hkey, ⟨rfl, k, q, v, hkv, rfl⟩, st', fun b hb => (hf b hb).1⟩⟩
  done := by
    intro X hP hw hK hc i pins s σ H E I hf st hg
    subst hP hw hK
    obtain ⟨hd, hi⟩ := hg
    obtain ⟨f0, f1, f2, f3, f4, f5⟩ := hf it (by simp)
    obtain ⟨hs, hgd, hx, es', ep', hdt, hsz, ent⟩ := frzN I hd
    obtain ⟨rfl, rfl⟩ := dict_ep hod hdt
    exact next_key_end (I.ok.hd hc) st hgd hdt hsz hi fun h' eb => ⟨rfl, I.turned (t' := s.toks) (fun b ob hb e => eb b ob hb e) f0 f1 f3 f4 f5⟩
  self := fun A i s Q E st h => by
    refine wpAny_pyIter_slot st.typeIs F.slot_dict_keyiterator_iter (wpAny_call_entry F.slot_dict_keyiterator_iter st.typeIs F.entry_dict_keyiterator_iter ?_ (F.args_dict_keyiterator_iter_1 _))
    show wpAny _ _ (ret (.ref it)) _ _ s
    exact wpAny_pure ⟨_, rfl, "dict_keyiterator", _, st.typeIs, F.slot_dict_keyiterator_next.lookup, h⟩
end
def iKeysN (P : Program) (w : World) (td : TE) : TI := fun σ H R => td σ H fun x H1 => ∃ d o kvs, x = .ref d ∧ H1 d = some (.frz o (NumO P w d kvs)) ∧ R (Itn P w d o kvs) H1
theorem pi_keysN {X : Cx} {tg e : Expr} {td : TE} (he : PE X e td) : PI X tg e (iKeysN X.prog X.w td) := by
  refine ⟨fun pins s σ H R I h => ?_⟩
  refine thn (he.run pins s σ H _ I h) fun u s1 ⟨x, H1, I1, rx, d, o, kvs, ex, hd, q⟩ => ?_
  subst ex
  obtain rfl : u = Value.ref d := rx
  obtain ⟨hs, hgd, hx, es, ep, hdt, hsz, ent⟩ := frzN I1 hd
  refine iter_keys hs hgd hx hdt (pi_one (tk := s1.toks) I1 _ (turn_keysN _ hdt) ⟨_, Heap.get?_push_size _ rfl, rfl, ?_⟩ q)
  rw [hsz] <;> rfl
/-! ### a comprehension -/
def tDcN (P : Program) (w : World) (wi : TI) (g : TG) (tt : TT) (tk tv : TE) (vs : List Nat) : TE := fun σ H Q => wi σ H fun J H1 => ∀ D, H1 D = none → ∃ W : Nat → Nat → Hp → Prop, (∃ m, W 0 m (upd H1 D (NumO P w D []))) ∧ ∀ i m H, W i m H →
  (J.stop i H ∧ Q (.ref D) H) ∨ (J.go i H ∧ ∃ Nx : Hp → Prop, (∀ H', Nx H' → ∃ m', m' < m ∧ W (i + 1) m' H') ∧ ∀ x H', J.yld i H x H' → g x (wipe σ vs) H' fun σ2 H2 => wipe σ2 vs = wipe σ vs ∧ tt σ2 H2 fun b H3 =>
    if b = true then tk σ2 H3 fun y H4 => tv σ2 H4 fun z H5 => ∃ kvs k b, y = .ref b ∧ NumAt P w H5 D kvs ∧ EntAt H5 b k ∧ k ∉ kvs.map (·.1) ∧ kvs.length < sizeLine ∧ Nx (upd H5 D (NumO P w D (kvs ++ [(k, b, z)]))) else Nx H3)
section
variable {X : Cx}
theorem dc_coreN {pins : List (Addr × Obj)} {s : Shared} {σ : St} {H : Hp} {Q : VK} {kx vx tg iter : Expr} {ifs : List Expr} {scope : Scope} {own : List (Str × Nat)} {pos pos' : Pos} {wi : TI} {g : TG} {tt : TT} {tk tv : TE} {use : Option (Value → Sem Unit)} {Qf : Value → Shared → Prop}
    (hu : X.A.units + 2 < cLine) (hc : X.calm = true) (hN : X.N.Nodup) (I : Inv X pins σ H s) (hi : PI X tg iter wi) (ok : BlkOk X.N X.env.scope scope own)
    (hg : ∀ (s : Shared) (H : Hp) (C : Addr) (cl : List (Str × Addr)) (fp : List Addr), PG (X.blk s H scope (compEnvC scope cl C X.env) fp) tg g) (ht : ∀ (s : Shared) (H : Hp) (C : Addr) (cl : List (Str × Addr)) (fp : List Addr), PTs (X.blk s H scope (compEnvC scope cl C X.env) fp) ifs tt)
    (hk : ∀ (s : Shared) (H : Hp) (C : Addr) (cl : List (Str × Addr)) (fp : List Addr), PE (X.blk s H scope (compEnvC scope cl C X.env) fp) kx tk)
    (he : ∀ (s : Shared) (H : Hp) (C : Addr) (cl : List (Str × Addr)) (fp : List Addr), PE (X.blk s H scope (compEnvC scope cl C X.env) fp) vx tv) (hs : ∀ x, foldedSetIterable iter X.env x = pure x)
    (h : tDcN X.prog X.w wi g tt tk tv (own.map (·.2)) σ H Q)
    (hRR : ∀ D C s' m H', Inv X pins σ H' s' → Q (.ref D) H' → s'.heap.Ns C m → FpOk X pins H' C → compPost (model X.prog X.w) X.A X.xe use Qf (.ref D) C (.ok .next) s') :
    wpAny (model X.prog X.w) X.A (comprehension (.DictComp kx vx [⟨tg, iter, ifs, 0⟩] scope pos) scope X.env pos' newDict false (eval iter X.env) use) Qf X.xe s := by
  have hfree : ∀ y ∈ scope.names, y.2 = .free → ∃ c, X.env.cells.lookup y.1 = some c := fun y hy e => by
    rcases ok.free y hy e with k | k
    · exact I.ok.has _ (.inl k)
    · exact I.ok.has _ (.inr k)
  refine wpAny_comprehension_free (use := use) rfl hs (closure_ok hfree) ok.kind (fun y hy e => by rw [ok.uniq y hy, e])
    (thn (hi.run pins s σ H _ I h) fun xv s1 hx => thn hx fun itv s2 h2 => ?_)
  obtain ⟨it, fp, tn, J, H2, e, I2, T, st2, f2, q⟩ := h2
  subst e
  refine wpAny_newObj_type (newEnv_comp ?_)
  generalize hD : s2.heap.objs.size = D
  have hDn : H2 D = none := I2.hok.fresh (Nat.le_of_eq hD)
  obtain ⟨W, ⟨m0, w0⟩, turn⟩ := q D hDn
  -- the new list
  generalize hs3 : ({ s2 with heap := s2.heap.push { cls := .type "dict", data := .dict #[] } } : Shared) = s3
  have I3 : Inv X pins σ (upd H2 D (NumO X.prog X.w D [])) s3 := by
    rw [← hs3]
    refine I2.laid (t' := s2.toks) (fun b o e => Heap.get?_push_of_some _ e) (Nat.le_of_eq hD) ?_
    rw [← hD]
    exact num_empty s2.heap I2.big
  have h3 : s3.heap = s2.heap.push { cls := .type "dict", data := .dict #[] } := by rw [← hs3]
  have sz : ∀ b ∈ fp, b < s2.heap.objs.size := fun b hb => by
    obtain ⟨o, e, _⟩ := T.obj _ _ st2 b hb
    exact Heap.lt_size e
  have f3 : ∀ b ∈ fp, FpOk X pins (upd H2 D (NumO X.prog X.w D [])) b ∧ b < s3.heap.objs.size := fun b hb => by
    have hlt := sz b hb
    refine ⟨⟨?_, (f2 b hb).2⟩, by rw [h3, Heap.size_push]; exact Nat.lt_succ_of_lt hlt⟩
    rw [upd_ne (by rw [← hD]; exact Nat.ne_of_lt hlt)]
    exact (f2 b hb).1
  have st3 : tn 0 s3.heap := T.keep _ _ _ st2 fun b _ o e => by rw [h3]; exact Heap.get?_push_of_some _ e
  have I4 := block_start I3 ok hN f3
  have pg := hg s3 (upd H2 D (NumO X.prog X.w D [])) s3.heap.objs.size (cellsFrom (s3.heap.objs.size + 1) scope.names (cloFrom X.env.cells scope.names [])) fp
  have pt := ht s3 (upd H2 D (NumO X.prog X.w D [])) s3.heap.objs.size (cellsFrom (s3.heap.objs.size + 1) scope.names (cloFrom X.env.cells scope.names [])) fp
  have pk := hk s3 (upd H2 D (NumO X.prog X.w D [])) s3.heap.objs.size (cellsFrom (s3.heap.objs.size + 1) scope.names (cloFrom X.env.cells scope.names [])) fp
  have pe := he s3 (upd H2 D (NumO X.prog X.w D [])) s3.heap.objs.size (cellsFrom (s3.heap.objs.size + 1) scope.names (cloFrom X.env.cells scope.names [])) fp
  show codeAny _ _ (.compStart (.DictComp kx vx [⟨tg, iter, ifs, 0⟩] scope pos) 0 (.ref it) (.ref D) (compEnvC scope (cellsFrom (s3.heap.objs.size + 1) scope.names (cloFrom X.env.cells scope.names [])) s3.heap.objs.size X.env)) (compPost (model X.prog X.w) X.A X.xe use Qf (.ref D) s3.heap.objs.size) { s3 with heap := pushCells (s3.heap.push { cls := .type "dict", data := .dict #[] }) scope.names }
  have nfp : ∀ b ∈ fp, (upd H2 D (NumO X.prog X.w D [])) b = none := fun b hb => (f3 b hb).1.1
  generalize hce : compEnvC scope (cellsFrom (s3.heap.objs.size + 1) scope.names (cloFrom X.env.cells scope.names [])) s3.heap.objs.size X.env = ce at I4 pg pt pk pe ⊢
  have cL : ce.locals = s3.heap.objs.size := by subst hce; rfl
  generalize hH3 : upd H2 D (NumO X.prog X.w D []) = H3 at I3 I4 pg pt pk pe w0 nfp f3
  generalize hs4 : ({ s3 with heap := pushCells (s3.heap.push { cls := .type "dict", data := .dict #[] }) scope.names } : Shared) = s4 at I4 ⊢
  have st4 : tn 0 s4.heap := T.keep _ _ _ st3 fun b _ o e => by rw [← hs4]; exact pushCells_keeps _ _ _ _ (Heap.get?_push_of_some _ e)
  have stat : ∀ {σ' : St} {H' : Hp} {s' : Shared}, Inv (X.blk s3 H3 scope ce fp) [] σ' H' s' → (∀ b ∈ fp, H' b = none) → ∀ b ∈ fp, FpOk (X.blk s3 H3 scope ce fp) [] H' b := fun {σ' H' s'} I' hn b hb =>
    ⟨hn b hb, (I'.ok.exf b hb).1, I'.ok.exfs b hb, .inl hb, fun x c e => (I'.ok.exf b hb).2 x c e, fun p hp => absurd (show p ∈ ([] : List (Addr × Obj)) ++ [] from hp) (by simp)⟩
  have loop : codeAny (model X.prog X.w) X.A (.compLoop (.DictComp kx vx [⟨tg, iter, ifs, 0⟩] scope pos) 0 (.ref it) (.ref D) ce) (compPost (model X.prog X.w) X.A X.xe use Qf (.ref D) s3.heap.objs.size) s4 := by
    refine compLoop_anyD (fun n s' => ∃ i H', Inv (X.blk s3 H3 scope ce fp) [] (wipe σ (own.map (·.2))) H' s' ∧ tn i s'.heap ∧ (∀ b ∈ fp, H' b = none) ∧ W i n H') ?_ m0 ⟨0, H3, I4, st4, nfp, w0⟩
    rintro n s5 ⟨i, H5, I5, st5, n5, w5⟩
    rcases turn i n H5 w5 with ⟨stop, qq⟩ | ⟨go, Nx, hNx, step⟩
    · have td := T.done (X.blk s3 H3 scope ce fp) rfl rfl rfl hc i [] s5 _ H5 (fun _ _ => False) I5 (stat I5 n5) st5 stop
      refine thnF td fun r s6 ⟨hr, I6⟩ => ?_
      subst hr
      -- back in the def's context
      have I7 : Inv X pins σ H5 s6 := I3.call' (ch := fp) I6.os I6.base I6.hok I6.bare fun b hb => ⟨(f3 b hb).1.2.2.2.1, (f3 b hb).1.2.1, (f3 b hb).1.2.2.2.2.1, (f3 b hb).1.2.2.2.2.2⟩
      have nC : H5 s3.heap.objs.size = none := by
        have z : H5 ce.locals = none := I6.free
        rw [cL] at z
        exact z
      obtain ⟨m, hn, _⟩ := I6.loc
      have hn : s6.heap.Ns ce.locals m := hn
      rw [cL] at hn
      exact hRR D s3.heap.objs.size s6 m H5 I7 qq hn (I3.fpOk (Nat.le_refl _) nC)
    · have ti := T.item (X.blk s3 H3 scope ce fp) rfl rfl rfl hc i [] s5 _ H5 (fun _ _ => False) I5 (stat I5 n5) st5 go
      refine thnF ti fun r s6 ⟨u, hr, h6⟩ => ?_
      subst hr
      refine thnF h6 fun _ s7 ⟨x, H7, I7, r7, y7, st7, n7⟩ => ?_
      have I7' := I7.pinned (stat I7 n7) (T.obj _ _ st7)
      refine thnF (pg.run _ s7 _ H7 x u _ I7' r7 (step x H7 y7)) fun _ s8 ⟨σ8, H8, I8, hw8, q8⟩ => ?_
      refine thnF (pt.run _ s8 σ8 H8 _ I8 q8) fun b s9 ⟨H9, I9, q9⟩ => ?_
      -- the turn's end
      have fin : ∀ {s' : Shared} {H' : Hp}, Inv (X.blk s3 H3 scope ce fp) ([] ++ pinsAt fp s7.heap) σ8 H' s' → Nx H' → ∃ m, m < n ∧ ∃ i H', Inv (X.blk s3 H3 scope ce fp) [] (wipe σ (own.map (·.2))) H' s' ∧ tn i s'.heap ∧ (∀ b ∈ fp, H' b = none) ∧ W i m H' := fun {s' H'} I' nx => by
        obtain ⟨m', hm, w'⟩ := hNx H' nx
        have pin' : ∀ b ∈ fp, ∀ o, s7.heap.get? b = some o → s'.heap.get? b = some o ∧ H' b = none := fun b hb o e =>
          let z := I'.pin (b, o) (List.mem_append_right _ (List.mem_append_right _ (mem_pinsAt hb e)))
          ⟨z.1, z.2.1⟩
        have hl : (wipe σ (own.map (·.2))).length = σ8.length := by rw [← hw8, wipe_length]
        refine ⟨m', hm, i + 1, H', (I'.unpinned (pins := [])).weak hl (fun j v e => ?_), T.keep _ _ _ st7 fun b hb o e => (pin' b hb o e).1, fun b hb => ?_, w'⟩
        · rw [← hw8] at e
          exact (wipe_some e).1
        · obtain ⟨o, e, _⟩ := T.obj _ _ st7 b hb
          exact (pin' b hb o e).2
      cases b with
      | false =>
        simp only [Bool.false_eq_true, if_false] at q9 ⊢
        exact fin I9 q9
      | true =>
        simp only [if_true] at q9 ⊢
        refine thnF (pk.run _ s9 σ8 H9 _ I9 q9) fun z s10 ⟨yk, H10, I10, r10, q10⟩ => ?_
        refine thnF (pe.run _ s10 σ8 H10 _ I10 q10) fun z2 s11 ⟨yv, H11, I11, r11, kvs, k, b, ek, hD11, hb11, hn11, hz11, nx⟩ => ?_
        subst ek
        obtain rfl : z = Value.ref b := r10
        exact n_dictSet (X := X.blk s3 H3 scope ce fp) hu I11 hD11 hb11 hn11 hz11 r11 fun s12 I12 => fin I12 nx
  exact codeAny_compStart_dict loop (T.self X.A 0 _ _ _ st4 loop)
/-- as a value -/
theorem pe_dcN {kx vx tg iter : Expr} {ifs : List Expr} {scope : Scope} {own : List (Str × Nat)} {pos : Pos} {wi : TI} {g : TG} {tt : TT} {tk tv : TE} (hu : X.A.units + 2 < cLine) (hc : X.calm = true) (hN : X.N.Nodup) (hi : PI X tg iter wi) (ok : BlkOk X.N X.env.scope scope own)
    (hg : ∀ (s : Shared) (H : Hp) (C : Addr) (cl : List (Str × Addr)) (fp : List Addr), PG (X.blk s H scope (compEnvC scope cl C X.env) fp) tg g) (ht : ∀ (s : Shared) (H : Hp) (C : Addr) (cl : List (Str × Addr)) (fp : List Addr), PTs (X.blk s H scope (compEnvC scope cl C X.env) fp) ifs tt)
    (hk : ∀ (s : Shared) (H : Hp) (C : Addr) (cl : List (Str × Addr)) (fp : List Addr), PE (X.blk s H scope (compEnvC scope cl C X.env) fp) kx tk)
    (he : ∀ (s : Shared) (H : Hp) (C : Addr) (cl : List (Str × Addr)) (fp : List Addr), PE (X.blk s H scope (compEnvC scope cl C X.env) fp) vx tv) (hs : ∀ x, foldedSetIterable iter X.env x = pure x := by intro _; rfl) :
    PE X (.DictComp kx vx [⟨tg, iter, ifs, 0⟩] scope pos) (tDcN X.prog X.w wi g tt tk tv (own.map (·.2))) := by
  refine ⟨fun pins s σ H Q I h => ?_⟩
  rw [arm_eval_DictComp]
  refine dc_coreN hu hc hN I hi ok hg ht hk he hs h fun D C s' m H' I' q hn f => ⟨m, hn, fun h'' sb => ?_⟩
  obtain ⟨f0, f1, f2, f3, f4, f5⟩ := f
  exact ⟨.ref D, H', I'.turned (t' := s'.toks) (fun b o hb e => (sb.2 b hb).trans e) f0 f1 f3 f4 f5, rfl, q⟩
end
end L2.My
end
section
set_option Elab.async false
set_option linter.all false
set_option maxRecDepth 100000
set_option maxHeartbeats 4000000
/-! Own exceptions as values: made by an __init__ that is walked as a def, asked by isinstance, their fields read. -/
namespace L2.My
open PySem PySem.Spec PyProof.Rows

/-- the facts of an own exception class, beside OexC -/
structure XC (K : PySem.W.Frag) (C : Addr) : Prop where
  o : OexC K C
  hga : PySem.W.findIn K (.ref C) "__getattribute__" = some (some (.builtin "BaseException.__getattribute__"))
  hgt : PySem.W.findIn K (.ref C) "__getattr__" = some none
  ha : PySem.W.findIn K (.ref C) "__class__" = some (some (.builtin "object.__class__"))
  hn : PySem.W.specialIn K (.builtin "object.__class__") "__get__" = some (some (.builtin "getset_descriptor.__get__"))
  ht : PySem.W.takesIn K (.builtin "object.__class__") = some true
  hm : PySem.W.mroIn K C (.type "object") = some true
  hd : PySem.W.hasDictIn K C = true

/-- C(e, ..): a new exception object, then __init__; it stays tracked -/
def tMkX (C : Addr) (sp : Sp) (dvs : List V) (ta : TA) : TE := fun σ H Q => ta σ H fun vs H1 => vs.length ≤ 1000 ∧ ∀ a, H1 a = none → sp (.ref a :: (vs ++ dvs)) (upd H1 a (exo a C none))
  (fun v H2 => v = .non ∧ Q (.ref a) H2) (fun _ _ _ => False)
section
variable {X : Cx} {CX : CXT} {k : Nat} {fI C : Addr} {fd : FuncData} {ps : List Str} {sp : Sp} {dvs : List V} {ds : List Value} {x : Str} {p pos : Pos} {e : Expr} {es : List Expr} {ta : TA}
theorem run_mkx {pins : List (Addr × Obj)} {σ : St} {H : Hp} {s : Shared} {Q : VK} {us : List Value} {vs : List V} (T : OexC X.K C) (iC : PySem.W.findIn X.K (.ref C) "__init__" = some (some (.ref fI))) (tI : PySem.W.typeIn X.K (.ref fI) = some (.type "function"))
    (F1 : FnOk X.prog X.w X.K X.mg X.base CX k fI fd ps sp) (hr : Room (k + 1) X.A) (hb : Binds X.K fd ps ds) (hd : Vals dvs ds) (hx : Passes CX X (fun _ _ _ => False)) (I : Inv X pins σ H s) (r1 : Vals vs us) (hz : vs.length ≤ 1000)
    (h : ∀ a, H a = none → sp (.ref a :: (vs ++ dvs)) (upd H a (exo a C none)) (fun v H2 => v = .non ∧ Q (.ref a) H2) (fun _ _ _ => False)) :
    wpAny (model X.prog X.w) X.A (call (.ref C) us) (EP X pins σ Q) X.xe s := by
  obtain ⟨nm, q, N, bs, bm, sn, sub, ab, col, dd, k0, k1, k2, k3, k5, hC, hbm⟩ := T.cls
  obtain ⟨hp, g, dr, tk, os⟩ := s
  have hsz : hp.objs.size ≤ hp.objs.size + 1 := Nat.le_succ _
  have hn : H (hp.objs.size + 1) = none := I.hok.fresh hsz
  have hq := h (hp.objs.size + 1) hn
  have kk : ∀ b o, hp.get? b = some o → ((hp.push (PySem.W.kdv_tup us)).push (PySem.HandSPX.excO C hp.objs.size)).get? b = some o := fun b o e => Heap.get?_push_of_some _ (Heap.get?_push_of_some _ e)
  have hget : ((hp.push (PySem.W.kdv_tup us)).push (PySem.HandSPX.excO C hp.objs.size)).get? (hp.objs.size + 1) = some (PySem.HandSPX.excO C hp.objs.size) := by heap_get
  have I2 : Inv X pins σ (upd H (hp.objs.size + 1) (exo (hp.objs.size + 1) C none)) ⟨(hp.push (PySem.W.kdv_tup us)).push (PySem.HandSPX.excO C hp.objs.size), g, dr, tk, os⟩ :=
    I.laid (t' := tk) (a := hp.objs.size + 1) (o := exo (hp.objs.size + 1) C none) (h' := (hp.push (PySem.W.kdv_tup us)).push (PySem.HandSPX.excO C hp.objs.size)) kk hsz (exo_ok hget)
  have r2 : Vals (V.ref (hp.objs.size + 1) :: (vs ++ dvs)) (Value.ref (hp.objs.size + 1) :: (us ++ ds)) := .cons rfl (r1.append hd)
  have hl : (Value.ref (hp.objs.size + 1) :: us ++ ds).length = ps.length := by
    have e := r2.length
    rw [F1.len _ _ _ _ hq] at e
    exact e.symm
  have hus : us.length ≤ sizeLine := by
    rw [← Paired.length r1, sizeLine_eq]
    omega
  refine wpAny_call (PySem.HandSPX.call_own F.excBase_ValueError (fun Y => PySem.HandSPX.refsVE_contains Y bm hbm) (I.kIn _ _ hC) (PySem.W.looks_findIn I.kIn iC) (fun self => PySem.W.bind_fn I.kIn self tI) hus
    (codeAny_mono (F1.run _ X.stack _ _ ⟨Value.ref (hp.objs.size + 1) :: us, []⟩ (Value.ref (hp.objs.size + 1) :: (us ++ ds)) _ _ (fun _ _ _ => False) (hr.make C us []) (I2.env0.make C us []) (hb _ (Value.ref (hp.objs.size + 1) :: us) I2.kIn hl) r2 hq) fun r s' hq' => ?_))
  cases r with
  | error er => exact hx pins σ _ _ er s' I2 hq'
  | ok fl =>
    cases fl with
    | ret u =>
      obtain ⟨v, H', I3, rv, ev, q3⟩ := I2.after hq'
      subst ev
      exact ⟨rv, ⟨V.ref (hp.objs.size + 1), H', I3, rfl, q3⟩⟩
    | next => exact False.elim hq'
    | brk => exact False.elim hq'
    | cont => exact False.elim hq'
theorem pe_mkx (T : OexC X.K C) (iC : PySem.W.findIn X.K (.ref C) "__init__" = some (some (.ref fI))) (tI : PySem.W.typeIn X.K (.ref fI) = some (.type "function"))
    (F1 : FnOk X.prog X.w X.K X.mg X.base CX k fI fd ps sp) (hr : Room (k + 1) X.A) (hb : Binds X.K fd ps ds) (hd : Vals dvs ds) (hx : Passes CX X (fun _ _ _ => False)) (hg : Gl X x) (hm : X.mg x = some (.ref C)) (ha : PA X (e :: es) ta)
    (hdb : (x == ("__debug__" : Str)) = false := by decide) (he : starEach (e :: es) X.env = (false, eval e X.env) :: starEach es X.env := by rfl) (hpl : (backTo pos (starEach es X.env)).any (·.1) = false := by rfl) :
    PE X (.Call (.Name x p) (e :: es) [] pos) (tMkX C sp dvs ta) := by
  refine ⟨fun pins s σ H Q I h => ?_⟩
  refine wpAny_Call_Name_kw (ld_glob I hg hm ?_ hdb)
  refine PySem.W.callWith_K (h₀ := X.base) I.ok.mod.kin T.kC (thn (ha.run pos pins s σ H _ I h) fun us s1 ⟨vs, H1, I1, r1, hz, q1⟩ => ⟨I1.kIn, ?_⟩) he hpl
  exact run_mkx T iC tI F1 hr hb hd hx I1 r1 hz q1
theorem pe_mkx0 (T : OexC X.K C) (iC : PySem.W.findIn X.K (.ref C) "__init__" = some (some (.ref fI))) (tI : PySem.W.typeIn X.K (.ref fI) = some (.type "function"))
    (F1 : FnOk X.prog X.w X.K X.mg X.base CX k fI fd ps sp) (hr : Room (k + 1) X.A) (hb : Binds X.K fd ps ds) (hd : Vals dvs ds) (hx : Passes CX X (fun _ _ _ => False)) (hg : Gl X x) (hm : X.mg x = some (.ref C))
    (hdb : (x == ("__debug__" : Str)) = false := by decide) :
    PE X (.Call (.Name x p) [] [] pos) (tMkX C sp dvs tNil) := by
  refine ⟨fun pins s σ H Q I h => ?_⟩
  refine wpAny_Call_Name_kw (ld_glob I hg hm ?_ hdb)
  exact PySem.W.callWith_K0 I.kIn T.kC (run_mkx (us := []) T iC tI F1 hr hb hd hx I .nil h.1 h.2)
end

/-! ### an exception that stands: with its dict, or with none -/
/-- at a stands an exception of the class at C, its dict (if any) tracked -/
def ErrAt (H : Hp) (a C : Addr) : Prop := ∃ d : Option Addr, H a = some (exo a C d) ∧ ∀ dx, d = some dx → ∃ fs, H dx = some (exd dx fs)
theorem ErrAt.same {H H' : Hp} {a C : Addr} (h : ErrAt H a C) (s : Same H H') : ErrAt H' a C := by
  obtain ⟨d, h1, h2⟩ := h
  exact ⟨d, s _ _ h1, fun dx e => by
    obtain ⟨fs, q⟩ := h2 dx e
    exact ⟨fs, s _ _ q⟩⟩
section
variable {X : Cx} {pins : List (Addr × Obj)} {σ : St} {H : Hp} {s : Shared}
theorem XC.cl {K : PySem.W.Frag} {C : Addr} (T : XC K C) : (PySem.W.clsIn K C).isSome = true := by
  obtain ⟨cd, h, _⟩ := PySem.W.any_some T.hd
  rw [h]
  rfl
theorem ErrAt.inst {a C : Addr} (I : Inv X pins σ H s) (h : ErrAt H a C) : ∃ ox od, PySem.W.InstAt s.heap a ox C od := by
  obtain ⟨d, h1, h2⟩ := h
  obtain ⟨t1, ho⟩ := exo_at I.hok h1
  cases d with
  | none => exact ⟨_, none, ho, rfl, rfl, trivial⟩
  | some dx =>
    obtain ⟨fs, q⟩ := h2 dx rfl
    obtain ⟨mA, ⟨oD, _, _, hoD, _⟩, _⟩ := exd_at I.hok q
    exact ⟨_, some oD, ho, rfl, rfl, hoD⟩
/-- isinstance(e, c) of a standing exception -/
def rIsX (K : PySem.W.Frag) : List V → Hp → VK → Prop := fun xs H Q => ∃ (a C : Addr) (c : V) (u : Value) (b : Bool), xs = [.ref a, c] ∧ ErrAt H a C ∧ XC K C ∧ ClsV c u ∧ PySem.W.kitOne K (.ref C) u = some b ∧ Q (.bl b) H
theorem call_isX : CallR X (.builtin "isinstance") (rIsX X.K) := by
  intro pins s σ H xs us Q I r h
  obtain ⟨a, C, c, u, b, rfl, hE, T, k, e, q⟩ := h
  obtain ⟨u1, u2, rfl, r1, r2⟩ := vals2 r
  have e2 := k.eq r2
  subst e2
  cases (show u1 = Value.ref a from r1)
  obtain ⟨ox, od, J⟩ := hE.inst I
  exact PySem.W.kia_one (PySem.W.kitx_exc T.cl T.hga T.hgt T.o.exC T.ha T.hn T.ht T.hm) I.kIn J e (fun z => nomatch z) fun tk => ⟨.bl b, H, I.tok tk, rfl, q⟩
/-- e.f of a standing exception -/
def tXfv (K : PySem.W.Frag) (f : Str) (te : TE) : TE := fun σ H Q => te σ H fun x H1 => ∃ (a C dx : Addr) (fs : List (Str × V)) (v : V), x = .ref a ∧ XC K C ∧ PySem.W.findIn K (.ref C) f = some none ∧ H1 a = some (exo a C (some dx)) ∧ H1 dx = some (exd dx fs) ∧ fs.lookup f = some v ∧ Q v H1
theorem pe_xfv {e : Expr} {te : TE} {pos : Pos} {n : Str} (he : PE X e te) (hb : attributeBase e n X.env (eval e X.env) = eval e X.env := by rfl) : PE X (.Attribute e n pos) (tXfv X.K n te) := by
  refine ⟨fun pins s σ H Q I h => ?_⟩
  refine attr_of hb (thn (he.run pins s σ H _ I h) fun u s1 hh => ?_)
  obtain ⟨x, H1, I1, rx, a, C, dx, fs, v, ex, T, hno, ea, ed, l, q⟩ := hh
  subst ex
  obtain rfl : u = Value.ref a := rx
  obtain ⟨t1, ho⟩ := exo_at I1.hok ea
  obtain ⟨mA, hns, hr⟩ := exd_at I1.hok ed
  obtain ⟨od, hod, hl⟩ := lookIn_ns hns
  obtain ⟨u, hu, ru⟩ := RelO.some_of (v := v) (o := mA n) (by rw [← l]; exact hr n)
  have J : PySem.W.InstAt s1.heap a _ C (some od) := ⟨ho, rfl, rfl, hod⟩
  exact HandSPX.exc_get I1.kIn J T.hga T.hgt T.o.exC (PySem.W.findObj_own T.hd hno rfl (by rw [hl, hu])) (handed_of ru) ⟨v, H1, I1.tok _, ru, q⟩
end
end L2.My
end
section
set_option Elab.async false
set_option linter.all false
set_option maxRecDepth 100000
set_option maxHeartbeats 4000000
/-! Small rules of our own. -/
namespace L2.My
open PySem PySem.Spec PyProof.Rows
section
variable {X : Cx}
theorem pt_and {a b : Expr} {rest : List Expr} {pos : Pos} {tA tB : TT} (ha : PT X a tA) (hb : PW X (.BoolOp .And (b :: rest) pos) tB) : PT X (.BoolOp .And (a :: b :: rest) pos) (tAnd tA tB) := (pw_and ha hb).pt
theorem pt_or {a b : Expr} {rest : List Expr} {pos : Pos} {tA tB : TT} (ha : PT X a tA) (hb : PW X (.BoolOp .Or (b :: rest) pos) tB) : PT X (.BoolOp .Or (a :: b :: rest) pos) (tOr tA tB) := (pw_or ha hb).pt
theorem op_le_str : OpR X (compareOp .LtE) (fun x y H Q => ∃ i j, x = .str i ∧ y = .str j ∧ Q (.bl (!decide (j.cps.toList < i.cps.toList))) H) := by
  intro pins s σ H x y v u Q I rx ry h
  obtain ⟨i, j, rfl, rfl, q⟩ := h
  obtain ⟨t, rfl⟩ := rx
  obtain ⟨t', rfl⟩ := ry
  exact P.le_str (fin_bl I q (by simp))
/-- d in a tuple of data -/
def rInTD (K : PySem.W.Frag) : R2 := fun x y H Q => ∃ d ds, Dp K H x d ∧ Dp K H y (.tuple ds) ∧ SeqAt.shaped d = true ∧ SeqAt.shaped (.tuple ds) = true ∧ Q (.bl (ds.any fun z => PyData.eqv z d)) H
def rNotInTD (K : PySem.W.Frag) : R2 := fun x y H Q => ∃ d ds, Dp K H x d ∧ Dp K H y (.tuple ds) ∧ SeqAt.shaped d = true ∧ SeqAt.shaped (.tuple ds) = true ∧ Q (.bl (!ds.any fun z => PyData.eqv z d)) H
theorem op_inTD (hu : X.A.units + 65 < cLine) : OpR X (compareOp .In) (rInTD X.K) := by
  intro pins s σ H x y v u Q I rx ry h
  obtain ⟨d, ds, hd, he, sd, se, q⟩ := h
  obtain ⟨as, r1⟩ := Dp.reads I d x v hd rx
  obtain ⟨bs, r2⟩ := Dp.reads I (.tuple ds) y u he ry
  exact SeqAt.in_tuple_reads r2 r1 (SeqAt.canLay_of_shaped se) (SeqAt.canLay_of_shaped sd) (room_in_shaped sd hu) ⟨.bl _, H, I, rfl, q⟩
theorem op_notInTD (hu : X.A.units + 65 < cLine) : OpR X (compareOp .NotIn) (rNotInTD X.K) := by
  intro pins s σ H x y v u Q I rx ry h
  obtain ⟨d, ds, hd, he, sd, se, q⟩ := h
  obtain ⟨as, r1⟩ := Dp.reads I d x v hd rx
  obtain ⟨bs, r2⟩ := Dp.reads I (.tuple ds) y u he ry
  exact SeqAt.notIn_tuple_reads r2 r1 (SeqAt.canLay_of_shaped se) (SeqAt.canLay_of_shaped sd) (room_in_shaped sd hu) ⟨.bl _, H, I, rfl, q⟩
/-- a text, repeated -/
def strRep (z : Str) (n : Nat) : Str := ⟨(List.replicate n z.cps).foldl (· ++ ·) #[]⟩
theorem foldl_app (z : Array Nat) : ∀ (n : Nat) (a : Array Nat), ((List.replicate n z).foldl (· ++ ·) a).size = a.size + z.size * n
  | 0, a => by simp
  | n + 1, a => by
    rw [List.replicate_succ, List.foldl_cons, foldl_app z n, Array.size_append, Nat.mul_succ]
    omega
theorem strRep_len (z : Str) (n : Nat) : (strRep z n).length = z.length * n := by
  show ((List.replicate n z.cps).foldl (· ++ ·) #[]).size = _
  rw [foldl_app]
  show (#[] : Array Nat).size + z.cps.size * n = z.cps.size * n
  simp
theorem op_repS : OpR X (binaryOp .Mult) (fun x y H Q => ∃ z k, x = .str z ∧ y = .int k ∧ 2 ≤ k ∧ k ≤ 1000 ∧ 0 < z.length ∧ z.length ≤ 1000 ∧ Q (.str (strRep z k.toNat)) H) := by
  intro pins s σ H x y v u Q I rx ry h
  obtain ⟨z, k, rfl, rfl, h2, h3, h4, h5, q⟩ := h
  obtain ⟨t, rfl⟩ := rx
  obtain ⟨t', rfl⟩ := ry
  have c1 : ¬ k < 1 := by omega
  have c2 : ¬ ((k == 1 || z.length == 0) = true) := by
    simp
    omega
  refine P.mul_str ?_ (fun _ _ => ?_) (fun _ _ => ?_) ?_
  · simp
    omega
  · have h6 : (1000 : Int) ≤ (2 ^ 63 - 1) / k := by
      apply (Int.le_ediv_iff_mul_le (by omega)).mpr
      omega
    omega
  · have h7 : z.length * k.toNat ≤ 1000 * 1000 := Nat.mul_le_mul h5 (by omega)
    show decide (z.length * k.toNat > sizeLine) = false
    rw [sizeLine_eq]
    exact decide_eq_false (by omega)
  · rw [if_neg c1, if_neg c2]
    refine ⟨?_, .str _, H, I.tok _, ⟨_, rfl⟩, q⟩
    show (strRep z k.toNat).length ≤ sizeLine
    rw [strRep_len, sizeLine_eq]
    have h7 : z.length * k.toNat ≤ 1000 * 1000 := Nat.mul_le_mul h5 (by omega)
    omega
/-- how often True stands in a list of bools -/
def isTrueV (v : Value) : Bool := match v with
  | .bool b => b
  | _ => false
theorem trueV_count : ∀ {us : List Value} {bs : List Bool}, Vals (bs.map V.bl) us → us.countP isTrueV = bs.count true ∧ ∀ y ∈ us, ∃ b, y = Value.bool b
  | us, [], r => by
    cases r
    exact ⟨rfl, fun y hy => by cases hy⟩
  | us, b :: bs, r => by
    cases r with
    | cons r1 rt =>
      obtain ⟨h1, h2⟩ := trueV_count rt
      obtain rfl := (show _ = Value.bool b from r1)
      refine ⟨?_, fun y hy => ?_⟩
      · rw [List.countP_cons, List.count_cons, h1]
        cases b <;> rfl
      · rcases List.mem_cons.mp hy with e | e
        · exact ⟨b, e⟩
        · exact h2 y e
def rCntB (K : PySem.W.Frag) : V → List V → Hp → VK → Prop := fun x xs H Q => ∃ (p : Addr) (bs : List Bool), x = .ref p ∧ xs = [.bl true] ∧ SqL K H p (bs.map V.bl) ∧ Q (.int (bs.count true : Nat)) H
theorem mt_lcountB : MtR X "list.count" (rCntB X.K) := by
  intro pins s σ H x xs v us Q I rx rxs h
  obtain ⟨p, bs, rfl, rfl, hs, q⟩ := h
  cases rx
  obtain ⟨u, rfl, ru⟩ := rxs.one
  cases (show u = Value.bool true from ru)
  obtain ⟨its, rv, ⟨⟨cls, dd, data, sl⟩, n, ho, hc, hdn, hd⟩, hlen⟩ := I.list hs
  simp only at hc hd
  subst hc hd
  obtain ⟨ec, hall⟩ := trueV_count rv
  refine call_meets PySem.F.slot_list_count ⟨_, ho, rfl⟩ PySem.F.entry_list_count (PySem.F.args_list_count_2 _ _)
    (SeqAt.list_countAt p its.toArray n dd sl (.bool true) isTrueV) ⟨ho, fun y hy => ?_, ?_⟩
  · obtain ⟨b, rfl⟩ := hall y (by simpa using hy)
    have z := SeqAt.EqAt.bool_bool (A := X.A.in1) (s := s) b true
    cases b <;> exact z
  · refine ⟨.int (bs.count true : Nat), H, I.tok _, ⟨s.toks, ?_⟩, q⟩
    show Value.int ((its.toArray.toList.countP isTrueV : Nat) : Int) s.toks = Value.int ((bs.count true : Nat) : Int) s.toks
    rw [show its.toArray.toList = its from rfl, ec]
/-- l.extend(t), t a tuple -/
def rExtT (K : PySem.W.Frag) : V → List V → Hp → VK → Prop := fun x vs H Q => ∃ l b xs zs, x = .ref l ∧ vs = [.ref b] ∧ H l = some (.lst xs) ∧ SqT K H b zs ∧ xs.length + zs.length ≤ sizeLine ∧ Q .non (upd H l (.lst (xs ++ zs)))
theorem ext_tup (l : Addr) (items : Array Value) (n : Nat) (b : Addr) (o : Obj) (items2 : Array Value) (n2 : Nat) (ho : o.cls = .type "tuple") (hd : o.data = .seq items2 n2) (hs0 : ¬(!items.isEmpty && Builtin.List.listTooLong (items.size + items2.size)) = true) (hs1 : items.size ≤ sizeLine) (hs2 : items.size + items2.size ≤ sizeLine + 1) :
    Meets (Builtin.«list.extend» ⟨[.ref l, .ref b], []⟩) (fun _ R s => s.heap.get? l = some { cls := .type "list", dict := none, data := .seq items n, slots := #[] } ∧ s.heap.get? b = some o ∧ R (.ok (.ret Value.none)) { s with heap := s.heap.update l (Obj.mapSeq fun x => x ++ items2), toks := s.toks }) :=
  .of_wp fun prog w A R s h => by
    obtain ⟨hp, g, d, tk, os⟩ := s
    obtain ⟨hl, hb, h⟩ := h
    obtain ⟨oc, od, dt, sl⟩ := o
    dsimp only at ho hd
    subst ho hd
    have f2 := sub_tuple_tuple
    have f3 := sub_list_list
    have f4 := sub_tuple_list
    have f5 := sub_list_tuple
    have hz' : (items ++ items2).size ≤ sizeLine + 1 := by
      rw [Array.size_append]
      exact hs2
    wp_walk using (wpAny_updateSeq hl rfl (hz := hs1) (_hz' := hz')), wpAny_loadPart' hl, wpAny_loadPart' hb
    exact ⟨_, rfl, h⟩
theorem mt_extT : MtR X "list.extend" (rExtT X.K) := by
  intro pins s σ H x vs v us Q I rx rv h
  obtain ⟨l, b, xs, zs, rfl, rfl, hH, hB, hz, q⟩ := h
  cases rx
  obtain ⟨u, rfl, ru⟩ := rv.one
  cases ru
  obtain ⟨z, its, n, r, hl, e⟩ := I.lstM hH
  obtain ⟨its2, r2, ⟨o, e2, c2, n2, d2⟩, _⟩ := I.tuple hB
  have hl2 := r2.length
  have hsz : its.toArray.size + its2.toArray.size ≤ sizeLine := by
    rw [List.size_toArray, List.size_toArray]
    omega
  have hlong : ¬ (!its.toArray.isEmpty && Builtin.List.listTooLong (its.toArray.size + its2.toArray.size)) = true := by
    rw [notLongL hsz, Bool.and_false]
    exact Bool.false_ne_true
  refine call_meets F.slot_list_extend ⟨_, e, rfl⟩ F.entry_list_extend (F.args_list_extend_2 _ _)
    (ext_tup l its.toArray n b o its2.toArray n2 c2 d2 hlong (by rw [List.size_toArray]; omega) (by omega)) ⟨e, e2, ?_⟩
  refine ⟨.non, _, I.lset (its' := its ++ its2) hH e (by simp) (r.append r2) ?_, rfl, q⟩
  rw [List.length_append]
  omega
end
end L2.My
end
section
set_option Elab.async false
set_option linter.all false
set_option maxRecDepth 100000
set_option maxHeartbeats 4000000
/-! max of a list of ints with a default. -/
namespace PySem
section
variable {prog : Program} {w : World} {A : Around} {R : Result → Shared → Prop} {I : Addr} {fp wr : List Addr} {n : Nat} {P : Nat → Value → Prop} {St : Nat → Heap → Prop} {kw : List (Str × Value)}
theorem maxKw_turn (W : Walks prog w A.in1 I fp wr n P St) (bt : Nat → Nat → Bool) (hcmp : CmpOf prog w A.in1 .Gt P bt) (S : Addr) (hSf : S ∉ fp) :
    ∀ (k j : Nat) (s : Shared) (vb : Value) (c : Nat), n - (j + 1) = k → j + 1 ≤ n → St (j + 1) s.heap → P (argBest bt j) vb →
      s.heap.get? S = some { cls := .type "list", dict := none, data := .seq #[vb, vb] c, slots := #[] } →
      (∀ v h' tk, P (argBest bt (n - 1)) v → (∀ b o, b ∉ wr → b ≠ S → s.heap.get? b = some o → h'.get? b = some o) → R (.ok (.ret v)) { s with heap := h', toks := tk }) →
      codeAny (model prog w) A (.builtin "max.loop" ⟨[.ref I, .none, .ref S], kw⟩) R s := by
  have away : S ∉ wr := fun h => hSf (W.sub _ h)
  have name : (toString "max" ++ toString ".loop" : String) = "max.loop" := by decide
  intro k
  induction k with
  | zero =>
    intro j s vb c hk hj st pb hS hR
    have last : j + 1 = n := by omega
    refine codeAny_builtin F.entry_max_loop ?_
    rw [Around.under_plainId F.plain_max_loop _]
    refine wpAny_bind (m := seqItems? (.ref S)) (wpAny_seqItems hS rfl ?_)
    refine wpAny_bind (wpAny_tryCatch (W.done s _ _ (last ▸ st) fun h' tk keep => ?_))
    have hS2 := keep S _ away hS
    refine wpAny_bind (m := updateSeq S (fun _ => #[])) ?_
    refine wpAny_updateSeq hS2 rfl (wpAny_bind (wpAny_letGo (wpAny_pure ?_)))
    refine hR vb _ tk (by rw [← last]; exact pb) fun b o n1 n2 e => ?_
    rw [Heap.get?_update_other _ _ (Ne.symm n2)]
    exact keep b o n1 e
  | succ k ih =>
    intro j s vb c hk hj st pb hS hR
    have more : j + 1 < n := by omega
    refine codeAny_builtin F.entry_max_loop ?_
    rw [Around.under_plainId F.plain_max_loop _]
    refine wpAny_bind (m := seqItems? (.ref S)) (wpAny_seqItems hS rfl ?_)
    refine wpAny_bind (wpAny_tryCatch (W.item (j + 1) s _ _ more st fun v h' tk pv st2 keep => ?_))
    have hS2 := keep S _ away hS
    refine wpAny_bind (wpAny_pure ?_)
    refine wpAny_bind (wpAny_tryCatch (wpAny_holding (wpAny_bind (hcmp (j + 1) (argBest bt j) v vb _ _ _ pv pb ?_))))
    refine wpAny_bind (wpAny_holding (wpAny_truthy_bool ?_))
    refine wpAny_bind (wpAny_letGo (wpAny_pure ?_))
    cases hb : bt (j + 1) (argBest bt j) with
    | true =>
      simp only [if_true]
      refine wpAny_bind ?_
      refine wpAny_updateSeq hS2 rfl (wpAny_bind (wpAny_letGo ?_))
      rw [name]
      refine wpAny_pure ⟨plainId_quiet F.plain_max_loop _, ih (j + 1) _ v _ (by omega) more (W.frame _ _ _ st2 fun b hbf o e => ?_) (by simp only [argBest, hb, if_true]; exact pv) (Heap.get?_update_self _ hS2 rfl) fun v' h2 tk2 p2 k2 => ?_⟩
      · rw [Heap.get?_update_other _ _ (fun z : S = b => hSf (by rw [z]; exact hbf))]
        exact e
      · refine hR v' h2 tk2 p2 fun b o n1 n2 e => k2 b o n1 n2 ?_
        rw [Heap.get?_update_other _ _ (Ne.symm n2)]
        exact keep b o n1 e
    | false =>
      simp only [Bool.false_eq_true, if_false]
      refine wpAny_bind (wpAny_letGo ?_)
      rw [name]
      refine wpAny_pure ⟨plainId_quiet F.plain_max_loop _, ih (j + 1) _ vb c (by omega) more st2 (by simp only [argBest, hb, Bool.false_eq_true, if_false]; exact pb) hS2 fun v' h2 tk2 p2 k2 => ?_⟩
      exact hR v' h2 tk2 p2 fun b o n1 n2 e => k2 b o n1 n2 (keep b o n1 e)
end
section
variable {prog : Program} {w : World} {A : Around} {E : Value → Shared → Prop} {s : Shared}
/-- a built-in function called with keywords: its own tree -/
theorem call_kw_tree {id : String} {b : Builtin} {args : List Value} {kw : List (Str × Value)} {Q : Value → Shared → Prop} (hk : builtinKind id = none) (hp : plainId id = true) (hb : entryFor table id = some b) (ha : argsOk id ⟨args, kw⟩)
    (hc : wpAny (model prog w) A.in1 (b ⟨args, kw⟩) (fun fin s' => match fin with
      | .done f => (match (Except.ok f : Result) with | .ok (.ret v) => Q v s' | .ok _ => False | .error e => E e s')
      | .again c' => c'.quiet = true ∧ codeAny (model prog w) A c' (fun r s' => match r with | .ok (.ret v) => Q v s' | .ok _ => False | .error e => E e s') s') E s) :
    wpAny (model prog w) A (call (.builtin id) args kw) Q E s := by
  refine wpAny_call (codeAny_call_builtin hp hb ?_)
  simp only [checkBuiltinCall, hk]
  cases hsig : Manifest.signature? id with
  | none => exact wpAny_pure hc
  | some sig =>
    simp only [argsOk, hsig] at ha
    show wpAny _ A.in1 (Bind.checkArgs id sig ⟨args, kw⟩) _ _ s
    rw [show Bind.checkArgs id sig ⟨args, kw⟩ = pure () from ha]
    exact wpAny_pure hc
theorem args_maxD (a d : Value) : argsOk "max" ⟨[a], [(Str.ofString "default", d)]⟩ := by
  unfold argsOk
  kernel_rfl
theorem bind_maxD (d : Value) : Builtin.Builtins.bindParams "max" ["key", "default"] 0 ⟨[], [(Str.ofString "default", d)]⟩ = pure [none, some d] := by
  kernel_rfl
theorem max_intListD {l : Addr} {xs : Array (Int × Tok)} {d : Value} {Q : Value → Shared → Prop} (hh : A.handled = none) (hl : s.heap.IsList l (intItems xs))
    (h0 : xs.size = 0 → ∀ h' tk, (∀ b o, s.heap.get? b = some o → h'.get? b = some o) → Q d { s with heap := h', toks := tk })
    (h : 0 < xs.size → ∀ v h' tk, (intItems xs)[argBest (fun i j => decide (numAt xs i > numAt xs j)) (xs.size - 1)]? = some v → (∀ b o, s.heap.get? b = some o → h'.get? b = some o) → Q v { s with heap := h', toks := tk }) :
    wpAny (model prog w) A (call (.builtin "max") [.ref l] [(Str.ofString "default", d)]) Q E s := by
  have name : (toString "max" ++ toString ".loop" : String) = "max.loop" := by decide
  refine call_kw_tree F.kind_max F.plain_max F.entry_max (args_maxD _ _) ?_
  refine wpAny_bind (m := Builtin.Builtins.bindParams "max" ["key", "default"] 0 ⟨[], [(Str.ofString "default", d)]⟩) (wpAny_of_eq (bind_maxD d) ?_)
  refine wpAny_bind (wpAny_pure ?_)
  refine wpAny_bind (iter_intList hl fun s₂ e st hfp hlI => ?_)
  subst e
  refine wpAny_bind (wpAny_newObj_type ?_)
  rw [name]
  have W := Walks.list (prog := prog) (w := w) (A := A.in1) hh _ l hlI (intItems xs)
  have ne : (s.heap.push { cls := .type "list_iterator", data := .fields #[.ref l, .int 0 0] }).objs.size ∉ [s.heap.objs.size, l] := fun hm => Nat.lt_irrefl _ (hfp _ hm)
  have up : ∀ {b : Addr} {o o2 : Obj}, s.heap.get? b = some o → ((s.heap.push { cls := .type "list_iterator", data := .fields #[.ref l, .int 0 0] }).push o2).get? b = some o := fun e => Heap.get?_push_of_some _ (Heap.get?_push_of_some _ e)
  have old : ∀ {b : Addr} {o : Obj}, s.heap.get? b = some o → b ∉ [s.heap.objs.size] := fun e hm => by
    rcases List.mem_cons.mp hm with z | z
    · exact absurd (z ▸ Heap.lt_size e) (Nat.lt_irrefl _)
    · cases z
  have old2 : ∀ {b : Addr} {o : Obj}, s.heap.get? b = some o → b ≠ (s.heap.push { cls := .type "list_iterator", data := .fields #[.ref l, .int 0 0] }).objs.size := fun e => Nat.ne_of_lt (Heap.lt_size (Heap.get?_push_of_some _ e))
  have st0 := W.frame 0 _ ((s.heap.push { cls := .type "list_iterator", data := .fields #[.ref l, .int 0 0] }).push { cls := .type "list", data := .seq #[] }) st fun b _ o e => Heap.get?_push_of_some _ e
  have hS : ((s.heap.push { cls := .type "list_iterator", data := .fields #[.ref l, .int 0 0] }).push { cls := .type "list", data := .seq #[] }).get? (s.heap.push { cls := .type "list_iterator", data := .fields #[.ref l, .int 0 0] }).objs.size = some { cls := .type "list", data := .seq #[] } := Heap.get?_push_size _ rfl
  refine wpAny_pure ⟨plainId_quiet F.plain_max_loop _, ?_⟩
  refine codeAny_builtin F.entry_max_loop ?_
  rw [Around.under_plainId F.plain_max_loop _]
  refine wpAny_bind (m := seqItems? (.ref _)) (wpAny_seqItems hS rfl ?_)
  have szE : (intItems xs).size = xs.size := by simp [intItems]
  by_cases hz : xs.size = 0
  · refine wpAny_bind (wpAny_tryCatch (W.done _ _ _ (by rw [szE, hz]; exact st0) fun h' tk keep => ?_))
    refine wpAny_bind (wpAny_rule (wpAny_pure ?_))
    exact h0 hz h' tk fun b o e => keep b o (old e) (up e)
  · refine wpAny_bind (wpAny_tryCatch (W.item 0 _ _ _ (by rw [szE]; omega) st0 fun v h' tk pv st2 keep => ?_))
    have hS2 := keep _ _ (by simp [Heap.size_push]) hS
    refine wpAny_bind (wpAny_pure ?_)
    refine wpAny_bind ?_
    refine wpAny_updateSeq hS2 rfl ?_
    rw [name]
    refine wpAny_pure ⟨plainId_quiet F.plain_max_loop _, maxKw_turn W _ (CmpOf.ints_gt (numAt xs) (fun _ _ => intItems_at)) _ ne _ 0 _ v _ rfl (by rw [szE]; omega) (W.frame _ _ _ st2 fun b hbf o e => ?_) pv (Heap.get?_update_self _ hS2 rfl) fun v' h2 tk2 p2 k2 => ?_⟩
    · rw [Heap.get?_update_other _ _ (fun z => ne (by rw [z]; exact hbf))]
      exact e
    · rw [szE] at p2
      refine h (by omega) v' h2 tk2 p2 fun b o e => k2 b o (old e) (old2 e) ?_
      rw [Heap.get?_update_other _ _ (Ne.symm (old2 e))]
      exact keep b o (old e) (up e)
end
end PySem
namespace L2.My
open PySem PySem.Spec PyProof.Rows
section
variable {X : Cx}
/-- max(xs, default=d) of a list of ints -/
def rMaxD (K : PySem.W.Frag) : List V → List V → Hp → VK → Prop := fun xs zs H Q => ∃ (a : Addr) (ns : List Int) (d : Int), xs = [.ref a] ∧ zs = [.int d] ∧ SqL K H a (ns.map V.int) ∧ (ns = [] → Q (.int d) H) ∧ ∀ m, m ∈ ns → (∀ y, y ∈ ns → y ≤ m) → Q (.int m) H
theorem cr_maxD (hc : X.calm = true) : CallRK X (.builtin "max") [Str.ofString "default"] (rMaxD X.K) := by
  intro pins s σ H vs zs us ws Q I r rz h
  obtain ⟨a, ns, d, rfl, rfl, hs, q0, q1⟩ := h
  obtain ⟨its, rv, hl, _⟩ := I.list hs
  have hi := rv.ints
  obtain rfl := Vals.ref1 r
  obtain ⟨w1, rfl, e1⟩ := vals1 rz
  obtain ⟨td, rfl⟩ := (show ∃ t, w1 = Value.int d t from e1)
  obtain ⟨xs, e⟩ := hi.allInts.items
  have hn : numsOf (intItems xs).toList = ns := by rw [← e]; exact hi.numsOf
  rw [nums_intItems] at hn
  have hl2 := hl.isList
  rw [e] at hl2
  have ez : ns.length = xs.size := by rw [← hn, List.length_map, Array.length_toList]
  refine PySem.max_intListD (I.ok.hd hc) hl2 (fun h0 h' tk keep => ?_) fun h0 v h' tk hv keep => ?_
  · exact ⟨.int d, H, I.kept keep, ⟨td, rfl⟩, q0 (List.eq_nil_of_length_eq_zero (by rw [ez, h0]))⟩
  · obtain ⟨t, rfl⟩ := intItems_at hv
    obtain ⟨h1, h2⟩ := argBest_gt (numAt xs) (xs.size - 1)
    refine ⟨.int _, H, I.kept keep, ⟨t, rfl⟩, q1 _ ?_ fun y hy => ?_⟩
    · rw [← hn, numAt_eq]
      exact PySem.getD_mem (by rw [List.length_map, Array.length_toList]; omega)
    · rw [← hn] at hy
      obtain ⟨j, hj, rfl⟩ := mem_getD hy
      rw [List.length_map, Array.length_toList] at hj
      rw [← numAt_eq]
      exact h2 j (by omega)
end
end L2.My
end
section
set_option Elab.async false
set_option linter.all false
set_option maxRecDepth 100000
set_option maxHeartbeats 4000000
/-! Own errors raised, and a def that calls what it got and names the error. -/
namespace L2.My
open PySem PySem.Spec PyProof.Rows
section
variable {X : Cx}
/-- what gives a new exception without a dict back makes an exception -/
theorem pmk_x {e : Expr} {te : TE} (hx : X.ex = []) (he : PE X e te) : PMk X e (fun σ H Q => te σ H fun x H1 => ∃ a C, x = .ref a ∧ H1 a = some (exo a C none) ∧ Fr0 X.H_0 a ∧ Raises X (.ref C) ∧ Q (.ref C) none (delH H1 a)) := by
  intro pins s σ H Q I h
  refine wpAny_mono (he.run pins s σ H _ I h) (fun u s1 hu => ?_) fun _ _ x => x
  obtain ⟨v, H1, I1, r1, a, C, rfl, ha, h0, hr, q⟩ := hu
  cases r1
  obtain ⟨t1, ho⟩ := exo_at I1.hok ha
  obtain ⟨G, gs, ga, J⟩ := I1.untrack ha h0 hx
  exact ⟨a, _, _, { s1 with heap := G }, delH H1 a, .ref C, none, rfl, J, gs, ga, ho, ⟨rfl, rfl⟩, rfl, rfl, delH_same, rfl, I1.bare, hr, q⟩
/-- __init__ that does nothing -/
def spNo : Sp := fun vs H Q _ => ∃ a, vs = [.ref a] ∧ Q .non H
/-- the facts by which a class whose __init__ does nothing is made -/
structure Ini0 (P : Program) (w : World) (K : PySem.W.Frag) (mg : Str → Option Value) (base : Heap) (C : Addr) : Prop where
  o : OexC K C
  f : ∃ fI fd, PySem.W.findIn K (.ref C) "__init__" = some (some (.ref fI)) ∧ PySem.W.typeIn K (.ref fI) = some (.type "function") ∧ FnOk P w K mg base CX0 1 fI fd ["self"] spNo ∧ Binds K fd ["self"] []
/-- raise X() -/
theorem pmk_no {C : Addr} {x : Str} {p pos : Pos} (T : Ini0 X.prog X.w X.K X.mg X.base C) (hx : X.ex = []) (hr : Room 2 X.A) (hg : Gl X x) (hm : X.mg x = some (.ref C)) (hdb : (x == ("__debug__" : Str)) = false := by decide) :
    PMk X (.Call (.Name x p) [] [] pos) (fun σ H Q => (∀ a, H a = none → X.H_0 a = none) ∧ Q (.ref C) none H) := by
  obtain ⟨fI, fd, i1, i2, F, b⟩ := T.f
  intro pins s σ H Q I h
  obtain ⟨h0, q⟩ := h
  refine pmk_x hx (pe_mkx0 (CX := CX0) T.o i1 i2 F hr b .nil (fun _ _ _ _ _ _ _ z => z.elim) hg hm hdb) pins s σ H Q I ?_
  refine ⟨by decide, fun a ha => ⟨a, rfl, rfl, a, C, rfl, upd_same, fr0_none (h0 a ha), raises_own T.o.exC T.o.tyC, ?_⟩⟩
  rw [delH_new ha]
  exact q
/-- isinstance of the caught exception, whatever it is -/
def rIsC (K : PySem.W.Frag) (a : Addr) (cls : Value) (d : Option Addr) : List V → Hp → VK → Prop := fun xs H Q => ∃ (D : Addr) (c : V) (cv : Value) (b : Bool), cls = .ref D ∧ d = none ∧ ExcC K D ∧ xs = [.ref a, c] ∧ (∀ u, RelV c u → u = cv) ∧ PySem.W.kitOne K (.ref D) cv = some b ∧ Q (.bl b) H
theorem call_isC {a : Addr} {oe : Obj} {cls : Value} {d : Option Addr} {pn : List (Addr × Obj)} (hz : Zc cls d oe) (hf : ∃ vs, oe.data = .fields vs) : CallR (X.suite a ((a, oe) :: pn)) (.builtin "isinstance") (rIsC X.K a cls d) := by
  intro pins s σ H xs us Q I r h
  obtain ⟨D, c, cv, b, rfl, rfl, C, rfl, hcv, e, q⟩ := h
  exact call_isE C hz hf pins s σ H _ us Q I r ⟨c, cv, b, rfl, hcv, e, q⟩
theorem XC.exc {K : PySem.W.Frag} {C : Addr} (T : XC K C) : ExcC K C := ⟨T.hga, T.hgt, T.o.exC, T.hd, T.ha, T.hn, T.ht, T.hm⟩
end
end L2.My
end
section
set_option Elab.async false
set_option linter.all false
set_option maxRecDepth 100000
set_option maxHeartbeats 4000000
namespace L2.My
open PySem PySem.Spec PyProof.Rows
def top (i : Nat) : Stmt := PySem.Challenge.pw_strangerspost_k01_books_by_own_account.main.body.getD i (.Pass ⟨0, 0, 0, 0⟩)
abbrev sBag : Stmt := top 19
abbrev sPick : Stmt := top 20
abbrev sSome : Stmt := top 21
/-! ### heaps -/
theorem same_upd {H : Hp} {p : Addr} {o : HO} (h : H p = none) : Same H (upd H p o) := fun b x e => by
  rw [upd_ne (ne_of_none e h)]
  exact e
theorem keep_ne {H : Hp} {p : Addr} {o : HO} {b : Addr} {x : HO} (h : H p = none) (e : H b = some x) : (upd H p o) b = some x := same_upd h _ _ e
theorem cutTo (xs : List V) (n : Nat) : cutV xs none (some (n : Int)) = xs.take n := by
  unfold cutV
  rw [HT.sIx_none, HT.sIx_nat]
  rw [List.drop_zero, Nat.sub_zero]
  rw [← List.take_eq_take_min]
/-- the bag: at b a list of the list at g (numbers not below 0), the seed, how many, the count -/
structure BagAt (H : Hp) (b g : Addr) : Prop where
  ne : g ≠ b
  at_ : ∃ (ns : List Int) (sd n c : Int), H b = some (.lst [.ref g, .int sd, .int n, .int c]) ∧ H g = some (.lst (ns.map .int)) ∧ ∀ x ∈ ns, 0 ≤ x
/-- all but the bag is as it was -/
def But (b g : Addr) (H H' : Hp) : Prop := ∀ p, p ≠ b → p ≠ g → H' p = H p
theorem But.refl {b g : Addr} {H : Hp} : But b g H H := fun _ _ _ => rfl
theorem But.trans {b g : Addr} {H H1 H2 : Hp} (x : But b g H H1) (y : But b g H1 H2) : But b g H H2 := fun p h1 h2 => (y p h1 h2).trans (x p h1 h2)
structure BagTxt (mg : Str → Option Value) : Prop where
  int_ : mg "int" = none
  abs_ : mg "abs" = none
  len_ : mg "len" = none
/-! ### the promises -/
def spBag (K : PySem.W.Frag) : Sp := fun vs H Q _ => ∃ (a : Addr) (ns : List Int), vs = [.ref a] ∧ SqL K H a (ns.map V.int) ∧ ns.length ≤ 1000 ∧ ∀ H' b g, Same H H' → H b = none → H g = none → BagAt H' b g → Q (.ref b) H'
def spPick : Sp := fun vs H Q _ => ∃ (b g : Addr) (m : Int), vs = [.ref b, .int m] ∧ BagAt H b g ∧ 0 < m ∧ m < 1073741824 ∧ ∀ H' r, But b g H H' → BagAt H' b g → 0 ≤ r → r < m → Q (.int r) H'
def spSome (K : PySem.W.Frag) : Sp := fun vs H Q _ => ∃ (b g t : Addr) (xs : List V), vs = [.ref b, .ref t] ∧ BagAt H b g ∧ SqL K H t xs ∧ t ≠ b ∧ t ≠ g ∧ xs ≠ [] ∧ xs.length < 1073741824 ∧ ∀ H' v, But b g H H' → BagAt H' b g → v ∈ xs → Q v H'
section
variable {P : Program} {w : World} {K : PySem.W.Frag} {mg : Str → Option Value} {base : Heap}
theorem scBag : FnScope ["script", "cell", "great", "seed"] ["script"] (defScope sBag) := ⟨rfl, rfl, rfl, by decide +kernel, rfl, by decide +kernel, by decide +kernel⟩
theorem ok_bag {f : Addr} {fd : FuncData} {k : Nat} (F : Fun K "_law_bag" "_law_bag" sBag f fd) (T : BagTxt mg) : FnOk P w K mg base CX0 (k + 1) f fd ["script"] (spBag K) := by
  refine F.ok scBag (fun vs H Q E h => ?_) (fun cdv A outer s H vs Q E hr h => ?_)
  · obtain ⟨a, ns, rfl, _⟩ := h
    rfl
  · obtain ⟨a, ns, rfl, hS, hlen, q⟩ := h
    refine ⟨_, pss_cons (ps_setLc (own := [("cell", 1)]) (i := 2) (g := gName 1) rfl scBag.nd rfl rfl (sw_true rfl rfl rfl (by decide +kernel)) (pi_list (pe_slice sl_list (pv 0) po_none (po_some pe_int)))
        (blkOk_by (N := ["script", "cell", "great", "seed"]) (sc := defScope sBag) (by decide +kernel)) (fun _ _ _ _ _ => pg_name (i := 1) scBag.nd rfl (Or.inl rfl))
        (fun _ _ _ _ _ => pts_one (pt_cmpR op_ge (pe_callB call_abs (by rfl) T.abs_ (by decide +kernel) (pa_cons (pe_callTy call_int1 (by rfl) T.int_ (by decide +kernel) (pa_cons (pv 1) pa_nil)) pa_nil)) (pe_op op_pow pe_int pe_int) (nomark _)))
        (fun _ _ _ _ _ => pe_callB call_abs (by rfl) T.abs_ (by decide +kernel) (pa_cons (pe_callTy call_int1 (by rfl) T.int_ (by decide +kernel) (pa_cons (pv 1) pa_nil)) pa_nil)))
      (pss_cons (ps_set (i := 3) scBag.nd rfl (Or.inl rfl) pe_int)
      (pss_cons (ps_for PassesOwn.never rfl (pi_list (pe_slice sl_list (pv 0) po_none (po_some pe_int))) (pg_name (i := 1) scBag.nd rfl (Or.inl rfl))
        (pss_one (ps_set (i := 3) scBag.nd rfl (Or.inl rfl) (pe_op op_mod (pe_callTy call_int1 (by rfl) T.int_ (by decide +kernel)
          (pa_cons (pe_op op_add (pe_op op_add (pe_op op_add (pe_op op_mul (pv 3) pe_int) (pe_op op_mul (pe_callB call_abs (by rfl) T.abs_ (by decide +kernel) (pa_cons (pe_callTy call_int1 (by rfl) T.int_ (by decide +kernel) (pa_cons (pv 1) pa_nil)) pa_nil)) pe_int))
            (pe_callTy call_int1 (by rfl) T.int_ (by decide +kernel) (pa_cons (pe_cmpR op_lt (pe_callTy call_int1 (by rfl) T.int_ (by decide +kernel) (pa_cons (pv 1) pa_nil)) pe_int (nomark _)) pa_nil))) pe_int) pa_nil)) pe_int))))
      (pss_one (ps_ret (pe_lst (pa_cons (pv 2) (pa_cons (pv 3) (pa_cons (pe_callB call_len_seq (by rfl) T.len_ PySem.boot_len (pa_cons (pv 0) pa_nil)) (pa_cons pe_int pa_nil))))))))), ?_⟩
    refine ⟨.ref a, rfl, 63, rfl, a, ns.map V.int, rfl, hS, fun c nc => ?_⟩
    have ec : cutV (ns.map V.int) none (some 63) = (ns.take 63).map V.int := by
      rw [List.map_take]
      exact cutTo _ 63
    rw [ec]
    refine ⟨c, rfl, ⟨_, SqL.of upd_same⟩, fun D hD => ?_⟩
    have s1 : Same H (upd H c (.lst ((ns.take 63).map V.int))) := same_upd nc
    have ncD : c ≠ D := fun e => by
      rw [← e, upd_same] at hD
      cases hD
    have hD0 : H D = none := s1.free hD
    refine lc_list (K := K) (a := c) (xs := (ns.take 63).map V.int) (fun i H' => ∃ out : List Int, Same H H' ∧ H' c = some (.lst ((ns.take 63).map V.int)) ∧ H' D = some (.lst (out.map V.int)) ∧ (∀ x ∈ out, 0 ≤ x) ∧ out.length ≤ i)
      ⟨[], s1.trans (same_upd hD), by rw [upd_ne ncD, upd_same], upd_same, fun x hx => (by cases hx), Nat.le_refl _⟩ (fun i H' _ ⟨_, _, hc, _⟩ => .of hc) ?_ ?_
    · rintro i x H' hi ⟨out, sm, hc, hd, hp, hl⟩
      obtain ⟨n, rfl⟩ : ∃ n, x = V.int n := by
        rw [List.getElem?_map] at hi
        cases e : (ns.take 63)[i]? with
        | none =>
          rw [e] at hi
          cases hi
        | some u =>
          rw [e] at hi
          exact ⟨u, (Option.some.inj hi).symm⟩
      have hi1 : i < ns.length := by
        have q := (List.getElem?_eq_some_iff.mp hi).1
        rw [List.length_map, List.length_take] at q
        omega
      refine ⟨rfl, ?_⟩
      refine ⟨_, rfl, .inl ⟨n, rfl, n, rfl, ?_⟩⟩
      refine ⟨_, _, rfl, rfl, ⟨by decide, by decide, by decide⟩, _, _, rfl, rfl, _, rfl, ?_⟩
      refine ite2 (fun h => ?_) (fun _ => ?_)
      · refine ⟨_, rfl, .inl ⟨n, rfl, n, rfl, ?_⟩⟩
        refine ⟨_, hd, ?_, out ++ [if n < 0 then -n else n], fun b o e => ?_, ?_, ?_, ?_, ?_⟩
        · rw [List.length_map]
          exact small1000 (by omega)
        · rw [upd_ne (ne_of_none e hD0)]
          exact sm _ _ e
        · rw [upd_ne ncD]
          exact hc
        · rw [upd_same, List.map_append]
          rfl
        · intro y hy
          rcases List.mem_append.mp hy with hy | hy
          · exact hp y hy
          · have e : y = (if n < 0 then -n else n) := by simpa using hy
            rw [e]
            split <;> omega
        · rw [List.length_append]
          simp only [List.length_singleton]
          omega
      · exact ⟨out, sm, hc, hd, hp, by omega⟩
    · rintro H' ⟨out, sm, hc, hd, hp, hl⟩
      refine ⟨_, rfl, 63, rfl, a, ns.map V.int, rfl, sm.seq hS, fun c2 nc2 => ?_⟩
      rw [ec]
      refine ⟨c2, rfl, ⟨_, SqL.of upd_same⟩, ?_⟩
      have s2 : Same H' (upd H' c2 (.lst ((ns.take 63).map V.int))) := same_upd nc2
      refine for_list (K := K) (a := c2) (xs := (ns.take 63).map V.int) (fun i σ H2 => ∃ (v : Option V) (sd : Int), σ = [some (.ref a), v, some (.ref D), some (.int sd)] ∧ 0 ≤ sd ∧ sd < 2147483648 ∧ Same H H2 ∧ H2 c2 = some (.lst ((ns.take 63).map V.int)) ∧ H2 D = some (.lst (out.map V.int)))
        ⟨_, _, rfl, by decide, by decide, sm.trans s2, upd_same, s2 _ _ hd⟩ (fun i σ H' _ ⟨_, _, _, _, _, _, hc, _⟩ => .of hc) ?_ ?_
      · rintro i x σ H2 hi ⟨v, sd, rfl, h0, h1, sm2, hc2, hd2⟩
        obtain ⟨n, rfl⟩ : ∃ n, x = V.int n := by
          rw [List.getElem?_map] at hi
          cases e : (ns.take 63)[i]? with
          | none =>
            rw [e] at hi
            cases hi
          | some u =>
            rw [e] at hi
            exact ⟨u, (Option.some.inj hi).symm⟩
        refine ⟨_, rfl, _, _, rfl, rfl, .inr ⟨by decide, by decide⟩, ?_⟩
        refine ⟨_, rfl, .inl ⟨n, rfl, n, rfl, ?_⟩⟩
        refine ⟨_, _, rfl, rfl, .inr ⟨by decide, by decide⟩, _, _, rfl, rfl, ?_⟩
        refine ⟨_, rfl, .inl ⟨n, rfl, _, _, rfl, rfl, .inr ⟨_, rfl, ?_⟩⟩⟩
        refine ⟨_, _, rfl, rfl, _, _, rfl, rfl, .inl ⟨_, rfl, _, _, rfl, rfl, (by show (0 : Int) < 2147483629; decide), ?_⟩⟩
        refine ⟨_, _, rfl, ?_, ?_, sm2, hc2, hd2⟩
        · exact Int.emod_nonneg _ (by decide)
        · exact Int.lt_trans (Int.emod_lt_of_pos _ (by decide)) (by decide)
      · rintro σ H2 ⟨v, sd, rfl, h0, h1, sm2, hc2, hd2⟩
        refine ⟨_, rfl, _, rfl, _, rfl, a, _, rfl, .inl (sm2.seq hS), by show 4 ≤ sizeLine; decide, fun b nb => ?_⟩
        have nbD : D ≠ b := ne_of_none hd2 nb
        exact q _ b D (sm2.trans (same_upd nb)) (sm2.free nb) hD0 ⟨nbD, out, sd, _, 0, upd_same, by rw [upd_ne nbD]; exact hd2, hp⟩
theorem scPick : FnScope ["bag", "many", "number"] ["bag", "many"] (defScope sPick) := ⟨rfl, rfl, rfl, by decide +kernel, rfl, by decide +kernel, by decide +kernel⟩
theorem ixN_zero {n : Nat} (h : 0 < n) : ixN n 0 = some 0 := by
  unfold ixN
  rw [if_pos (by omega), if_pos (by omega)]
  rfl
theorem mod_in {x m : Int} (h : 0 < m) : 0 ≤ x % m ∧ x % m < m := ⟨Int.emod_nonneg _ (by omega), Int.emod_lt_of_pos _ h⟩
theorem ok_pick {f : Addr} {fd : FuncData} {k : Nat} (F : Fun K "_law_pick" "_law_pick" sPick f fd) (T : BagTxt mg) : FnOk P w K mg base CX0 (k + 1) f fd ["bag", "many"] spPick := by
  refine F.ok scPick (fun vs H Q E h => ?_) (fun cdv A outer s H vs Q E hr h => ?_)
  · obtain ⟨b, g, m, rfl, _⟩ := h
    rfl
  · obtain ⟨b, g, m, rfl, ⟨ngb, ns, sd, n, c, hb, hg, hp⟩, hm0, hm1, q⟩ := h
    refine ⟨_, pss_cons (ps_if (pt_cmpR op_eq (pe_ix ix_list (pv 0) pe_int (fun _ _ => rfl)) pe_int (nomark _)) (pss_one (ps_ret pe_int)) pss_nil)
      (pss_cons (ps_if (pt_cmpR op_gt (pe_callB call_len_seq (by rfl) T.len_ PySem.boot_len (pa_cons (pe_ix ix_list (pv 0) pe_int (fun _ _ => rfl)) pa_nil)) pe_int (nomark _))
        (pss_cons (ps_set (i := 2) scPick.nd rfl (Or.inl rfl) (pe_ix ix_list (pe_ix ix_list (pv 0) pe_int (fun _ _ => rfl)) pe_int (fun _ _ => rfl)))
        (pss_cons (ps_asg (pe_op op_fdiv (pv 2) (pv 1)) (pg_sub (pe_ix ix_list (pv 0) pe_int (fun _ _ => rfl)) pe_int set_list))
        (pss_cons (ps_if (pt_cmpR op_lt (pv 2) (pv 1) (nomark _)) (pss_one (ps_expr (pe_bm PySem.F.plainAttrs_list PySem.F.slot_list_pop PySem.F.type_list_pop mt_popAt (pe_ix ix_list (pv 0) pe_int (fun _ _ => rfl)) (pa_cons pe_int pa_nil)))) pss_nil)
        (pss_one (ps_ret (pe_op op_mod (pe_callTy call_int1 (by rfl) T.int_ (by decide +kernel) (pa_cons (pv 2) pa_nil)) (pv 1))))))) pss_nil)
      (pss_cons (ps_asg (pe_op op_add (pe_ix ix_list (pv 0) pe_int (fun _ _ => rfl)) pe_int) (pg_sub (pv 0) pe_int set_list))
      (pss_cons (ps_set (i := 2) scPick.nd rfl (Or.inl rfl) (pe_op op_mod (pe_callTy call_int1 (by rfl) T.int_ (by decide +kernel) (pa_cons
        (pe_op op_add (pe_op op_mul (pe_op op_add (pe_ix ix_list (pv 0) pe_int (fun _ _ => rfl)) (pe_op op_mul pe_int (pe_ix ix_list (pv 0) pe_int (fun _ _ => rfl)))) pe_int) pe_int) pa_nil)) pe_int))
      (pss_cons (ps_set (i := 2) scPick.nd rfl (Or.inl rfl) (pe_op op_mod (pe_callTy call_int1 (by rfl) T.int_ (by decide +kernel) (pa_cons
        (pe_op op_add (pe_op op_mul (pv 2) (pe_op op_add (pe_op op_fdiv (pv 2) pe_int) pe_int)) (pe_ix ix_list (pv 0) pe_int (fun _ _ => rfl))) pa_nil)) pe_int))
      (pss_cons (ps_asg (pe_op op_mod (pe_callTy call_int1 (by rfl) T.int_ (by decide +kernel) (pa_cons (pe_op op_add (pe_ix ix_list (pv 0) pe_int (fun _ _ => rfl)) (pv 2)) pa_nil)) pe_int) (pg_sub (pv 0) pe_int set_list))
      (pss_one (ps_ret (pe_op op_mod (pe_callTy call_int1 (by rfl) T.int_ (by decide +kernel) (pa_cons (pe_op op_fdiv (pv 2) pe_int) pa_nil)) (pv 1))))))))), ?_⟩
    have a0 : atI ([.ref g, .int sd, .int n, .int c] : List V) 0 = some (.ref g) := rfl
    have a1 : atI ([.ref g, .int sd, .int n, .int c] : List V) 1 = some (.int sd) := rfl
    have a2 : atI ([.ref g, .int sd, .int n, .int c] : List V) 2 = some (.int n) := rfl
    have a3 : atI ([.ref g, .int sd, .int n, .int c] : List V) 3 = some (.int c) := rfl
    refine ⟨_, rfl, b, _, _, _, rfl, rfl, .of hb, a2, rfl, _, rfl, ?_⟩
    refine ite2 (fun _ => ?_) (fun _ => ?_)
    · exact q H 0 .refl ⟨ngb, ns, sd, n, c, hb, hg, hp⟩ (by omega) hm0
    refine ⟨_, rfl, b, _, _, _, rfl, rfl, .of hb, a0, g, _, rfl, .inl (.of hg), _, _, rfl, rfl, _, rfl, ?_⟩
    refine ite2 (fun hlen => ?_) (fun _ => ?_)
    · have hl : 0 < ns.length := by
        have z := of_decide_eq_true hlen
        rw [List.length_map] at z
        omega
      obtain ⟨x, rest, rfl⟩ : ∃ x rest, ns = x :: rest := by
        cases ns with
        | nil => simp at hl
        | cons x r => exact ⟨x, r, rfl⟩
      have hx : 0 ≤ x := hp x List.mem_cons_self
      refine ⟨_, rfl, b, _, _, _, rfl, rfl, .of hb, a0, g, _, _, .int x, rfl, rfl, .of hg, atI_nat (j := 0) rfl, ?_⟩
      refine ⟨_, rfl, _, rfl, _, _, rfl, rfl, ⟨hm0, hm1⟩, ?_⟩
      refine ⟨_, rfl, b, _, _, _, rfl, rfl, .of hb, a0, g, _, _, 0, rfl, rfl, hg, ixN_zero (by simp), ?_⟩
      have e1 : ((x :: rest).map V.int).set 0 (.int (x / m)) = ((x / m) :: rest).map V.int := rfl
      rw [e1]
      have hb1 : (upd H g (.lst ((x / m :: rest).map V.int))) b = some (.lst [.ref g, .int sd, .int n, .int c]) := by
        rw [upd_ne ngb.symm]
        exact hb
      have hp1 : ∀ y ∈ x / m :: rest, 0 ≤ y := fun y hy => by
        rcases List.mem_cons.mp hy with e | hy
        · rw [e]
          exact Int.ediv_nonneg hx (by omega)
        · exact hp y (List.mem_cons_of_mem _ hy)
      have b1 : But b g H (upd H g (.lst ((x / m :: rest).map V.int))) := fun p _ h2 => upd_ne h2
      refine ⟨_, rfl, _, rfl, _, _, rfl, rfl, _, rfl, ?_⟩
      refine ite2 (fun _ => ?_) (fun _ => ?_)
      · refine ⟨_, rfl, b, _, _, _, rfl, rfl, .of hb1, a0, .inl ⟨rfl, _, .of upd_same⟩, g, _, _, 0, .int (x / m), rfl, rfl, upd_same, by decide, by decide, PySem.seqIndex_of (by decide) (by rw [List.length_map, List.length_cons]; omega), rfl, ?_⟩
        rw [upd_upd]
        refine ⟨_, rfl, .inl ⟨x, rfl, _, rfl, _, _, rfl, rfl, hm0, ?_⟩⟩
        refine q _ _ (fun p _ h2 => upd_ne h2) ⟨ngb, rest, sd, n, c, ?_, upd_same, fun y hy => hp y (List.mem_cons_of_mem _ hy)⟩ (mod_in hm0).1 (mod_in hm0).2
        rw [upd_ne ngb.symm]
        exact hb
      · refine ⟨_, rfl, .inl ⟨x, rfl, _, rfl, _, _, rfl, rfl, hm0, ?_⟩⟩
        exact q _ _ b1 ⟨ngb, _, sd, n, c, hb1, upd_same, hp1⟩ (mod_in hm0).1 (mod_in hm0).2
    · -- bag[3] = bag[3] + 1
      refine ⟨_, rfl, b, _, _, _, rfl, rfl, .of hb, a3, _, _, rfl, rfl, _, rfl, b, _, _, 3, rfl, rfl, hb, rfl, ?_⟩
      have e3 : ([.ref g, .int sd, .int n, .int c] : List V).set 3 (.int (c + 1)) = [.ref g, .int sd, .int n, .int (c + 1)] := rfl
      rw [e3]
      have hb1 : (upd H b (.lst [.ref g, .int sd, .int n, .int (c + 1)])) b = some (.lst [.ref g, .int sd, .int n, .int (c + 1)]) := upd_same
      have hg1 : (upd H b (.lst [.ref g, .int sd, .int n, .int (c + 1)])) g = some (.lst (ns.map .int)) := by
        rw [upd_ne ngb]
        exact hg
      have c1 : atI ([.ref g, .int sd, .int n, .int (c + 1)] : List V) 1 = some (.int sd) := rfl
      have c3 : atI ([.ref g, .int sd, .int n, .int (c + 1)] : List V) 3 = some (.int (c + 1)) := rfl
      refine ⟨_, rfl, b, _, _, _, rfl, rfl, .of hb1, c1, _, rfl, b, _, _, _, rfl, rfl, .of hb1, c3, _, _, rfl, rfl, .inl ⟨by decide, by decide⟩, _, _, rfl, rfl, _, _, rfl, rfl, .inr ⟨by decide, by decide⟩, _, _, rfl, rfl, ?_⟩
      refine .inl ⟨_, rfl, _, _, rfl, rfl, (by show (0 : Int) < 2147483647; decide), ?_⟩
      generalize hn1 : (((sd + 7919 * (c + 1)) * 48271 + 11) % 2147483647 : Int) = n1
      have r1 : 0 ≤ n1 ∧ n1 < 2147483647 := by
        rw [← hn1]
        exact mod_in (by decide)
      refine ⟨_, rfl, _, rfl, _, _, rfl, rfl, ⟨by decide, by decide⟩, _, _, rfl, rfl, _, _, rfl, rfl, .inl ⟨by omega, by omega⟩, _, rfl, b, _, _, _, rfl, rfl, .of hb1, c3, _, _, rfl, rfl, ?_⟩
      refine .inl ⟨_, rfl, _, _, rfl, rfl, (by show (0 : Int) < 2147483399; decide), ?_⟩
      generalize hn2 : ((n1 * (n1 / 1009 + 69621) + (c + 1)) % 2147483399 : Int) = n2
      refine ⟨_, rfl, b, _, _, _, rfl, rfl, .of hb1, c1, _, rfl, _, _, rfl, rfl, .inl ⟨_, rfl, _, _, rfl, rfl, (by show (0 : Int) < 2147483629; decide), ?_⟩⟩
      refine ⟨_, rfl, b, _, _, 1, rfl, rfl, hb1, rfl, ?_⟩
      rw [upd_upd]
      refine ⟨_, rfl, _, _, rfl, rfl, ⟨by decide, by decide⟩, .inl ⟨_, rfl, _, rfl, _, _, rfl, rfl, hm0, ?_⟩⟩
      refine q _ _ (fun p h1 _ => upd_ne h1) ⟨ngb, ns, _, n, c + 1, upd_same, ?_, hp⟩ (mod_in hm0).1 (mod_in hm0).2
      rw [upd_ne ngb]
      exact hg
theorem scSome : FnScope ["bag", "things"] ["bag", "things"] (defScope sSome) := ⟨rfl, rfl, rfl, by decide +kernel, rfl, by decide +kernel, by decide +kernel⟩
theorem ok_some {f fP : Addr} {fd fdP : FuncData} {k : Nat} (F : Fun K "_law_some" "_law_some" sSome f fd) (T : BagTxt mg) (FP : Fun K "_law_pick" "_law_pick" sPick fP fdP) (gP : mg "_law_pick" = some (.ref fP)) (bP : Binds K fdP ["bag", "many"] []) : FnOk P w K mg base CX0 (k + 2) f fd ["bag", "things"] (spSome K) := by
  have GP : FnOk P w K mg base CX0 (k + 1) fP fdP ["bag", "many"] spPick := ok_pick FP T
  refine F.ok scSome (fun vs H Q E h => ?_) (fun cdv A outer s H vs Q E hr h => ?_)
  · obtain ⟨b, g, t, xs, rfl, _⟩ := h
    rfl
  · obtain ⟨b, g, t, xs, rfl, hB, hS, ntb, ntg, hne, hlen, q⟩ := h
    refine ⟨_, pss_one (ps_ret (pe_ix ix_list (pv 1) (pe_call GP hr rfl gP FP.kp bP .nil pass0 (pa_cons (pv 0) (pa_cons (pe_callB call_len_seq (by rfl) T.len_ PySem.boot_len (pa_cons (pv 1) pa_nil)) pa_nil))) (fun _ _ => rfl))), ?_⟩
    have hl : 0 < xs.length := by
      cases xs with
      | nil => exact absurd rfl hne
      | cons _ _ => simp
    refine ⟨_, rfl, _, rfl, _, rfl, t, xs, rfl, .inl hS, ?_⟩
    refine ⟨b, g, _, rfl, hB, by omega, by omega, fun H' r hbut hB' h0 h1 => ?_⟩
    have hS' : SqL K H' t xs := by
      rcases hS with (e | ⟨o, e⟩) | e
      · exact .inl (.inl ((hbut t ntb ntg).trans e))
      · exact .inl (.inr ⟨o, (hbut t ntb ntg).trans e⟩)
      · exact .inr e
    have hr' : r.toNat < xs.length := by omega
    have er : xs[r.toNat]? = some xs[r.toNat] := List.getElem?_eq_getElem hr'
    have ea := atI_nat er
    rw [Int.toNat_of_nonneg h0] at ea
    exact ⟨t, xs, r, _, rfl, rfl, hS', ea, q _ _ hbut hB' (List.getElem_mem hr')⟩
end
end L2.My
end
section
set_option Elab.async false
set_option linter.all false
set_option maxRecDepth 100000
set_option maxHeartbeats 4000000
namespace L2.My
open PySem PySem.Spec PyProof.Rows
theorem seq_set {te : TE} {i : Nat} {u : TS} {D : Ends} {σ : St} {H : Hp} (h : te σ H fun v H1 => u D (σ.set i (some v)) H1) : tSeq (tAsg te (gName i)) u D σ H := h
theorem seq_par3 {ta : TA} {i j l : Nat} {u : TS} {D : Ends} {σ : St} {H : Hp} (h : ta σ H fun vs H1 => ∃ x y z, vs = [x, y, z] ∧ u D (((σ.set i (some x)).set j (some y)).set l (some z)) H1) : tSeq (tPar3 i j l ta) u D σ H := h
theorem seq_par {ta : TA} {i j : Nat} {u : TS} {D : Ends} {σ : St} {H : Hp} (h : ta σ H fun vs H1 => ∃ x y, vs = [x, y] ∧ u D ((σ.set i (some x)).set j (some y)) H1) : tSeq (tPar i j ta) u D σ H := h
theorem ret_of {te : TE} {D : Ends} {σ : St} {H : Hp} (h : te σ H D.rt) : tRet te D σ H := h
theorem lst_of {ta : TA} {σ : St} {H : Hp} {Q : VK} (h : ta σ H fun xs H1 => xs.length ≤ sizeLine ∧ ∀ p, H1 p = none → Q (.ref p) (upd H1 p (.lst xs))) : tLst ta σ H Q := h
theorem tup_of {ta : TA} {σ : St} {H : Hp} {Q : VK} (h : ta σ H fun xs H1 => xs.length ≤ sizeLine ∧ ∀ p, H1 p = none → Q (.ref p) (upd H1 p (.tup xs))) : tTup ta σ H Q := h
theorem cons_of {te : TE} {ta : TA} {σ : St} {H : Hp} {Q : List V → Hp → Prop} (h : te σ H fun x H1 => ta σ H1 fun xs H2 => Q (x :: xs) H2) : tCons te ta σ H Q := h
theorem nil_of {σ : St} {H : Hp} {Q : List V → Hp → Prop} (h : Q [] H) : tNil σ H Q := h
section
variable {J : It} {n : Nat} {G : Hp → Prop} {Y : Nat → Hp → V → Hp → Prop}
/-- what a list comprehension gives, its parts pure -/
def CompOut (J : It) (g : TG) (tt : TT) (te : TE) (vs : List Nat) (σ : St) (D : Addr) (Qd : Hp → Prop) (H1 : Hp) : Prop :=
    ∃ W : Nat → Nat → Hp → Prop, (∃ m, W 0 m (upd H1 D (.lst []))) ∧ ∀ i m H, W i m H →
      (J.stop i H ∧ Qd H) ∨ (J.go i H ∧ ∃ Nx : Hp → Prop, (∀ H', Nx H' → ∃ m', m' < m ∧ W (i + 1) m' H') ∧ ∀ x H', J.yld i H x H' → g x (wipe σ vs) H' fun σ2 H2 => wipe σ2 vs = wipe σ vs ∧ tt σ2 H2 fun b H3 =>
        if b = true then te σ2 H3 fun y H4 => ∃ acc, H4 D = some (.lst acc) ∧ acc.length < sizeLine ∧ Nx (upd H4 D (.lst (acc ++ [y]))) else Nx H3)
theorem range_map_snoc {α : Type} (f : Nat → α) (i : Nat) : (List.range i).map f ++ [f i] = (List.range (i + 1)).map f := by
  rw [List.range_succ, List.map_append]; rfl
theorem range_fm_snoc {α : Type} (f : Nat → Option α) (i : Nat) {v : α} (h : f i = some v) : (List.range i).filterMap f ++ [v] = (List.range (i + 1)).filterMap f := by
  rw [List.range_succ, List.filterMap_append]; simp [h]
theorem range_fm_skip {α : Type} (f : Nat → Option α) (i : Nat) (h : f i = none) : (List.range i).filterMap f = (List.range (i + 1)).filterMap f := by
  rw [List.range_succ, List.filterMap_append]; simp [h]
/-- the list at D grows -/
theorem same_grow {H H4 H1 : Hp} {D : Addr} {o : HO} (s : Same H H4) (hD : H1 D = none) (s1 : Same H1 H) : Same H1 (upd H4 D o) := fun b u e => by
  rw [upd_ne (ne_of_none e hD)]
  exact s _ _ (s1 _ _ e)
theorem lcP (w : Walk J n G Y) {g : TG} {te : TE} {vs : List Nat} {σ : St} {H1 : Hp} {D : Addr} {Qd : Hp → Prop} (fv : Nat → V) (hn : n < sizeLine) (hD : H1 D = none) (hG : ∀ H', Same H1 H' → G H')
    (hs : ∀ i x H H' (Q' : VK), i < n → Same H1 H → Y i H x H' → (∀ H4, Same H H4 → Q' (fv i) H4) → g x (wipe σ vs) H' fun σ2 H2 => wipe σ2 vs = wipe σ vs ∧ te σ2 H2 Q')
    (hd : ∀ H, Same H1 H → H D = some (.lst ((List.range n).map fv)) → Qd H) : CompOut J g tYes te vs σ D Qd H1 := by
  refine lc_it w (tt := tYes) (fun i H => Same H1 H ∧ H D = some (.lst ((List.range i).map fv))) ⟨same_upd hD, upd_same⟩ (fun i H _ h => hG H h.1) ?_ (fun H h => hd H h.1 h.2)
  rintro i x H H' hi ⟨sm, hd'⟩ y
  have q := hs i x H H' (fun v H4 => ∃ acc, H4 D = some (.lst acc) ∧ acc.length < sizeLine ∧ Same H1 (upd H4 D (.lst (acc ++ [v]))) ∧ (upd H4 D (.lst (acc ++ [v]))) D = some (.lst ((List.range (i + 1)).map fv))) hi sm y
    (fun H4 s4 => ⟨_, s4 _ _ hd', by rw [List.length_map, List.length_range]; omega, same_grow s4 hD sm, by rw [upd_same, range_map_snoc]⟩)
  exact q
theorem lcF (w : Walk J n G Y) {g : TG} {tt : TT} {te : TE} {vs : List Nat} {σ : St} {H1 : Hp} {D : Addr} {Qd : Hp → Prop} (fv : Nat → Option V) (hn : n < sizeLine) (hD : H1 D = none) (hG : ∀ H', Same H1 H' → G H')
    (hs : ∀ i x H H' (Q' : VK) (N' : Hp → Prop), i < n → Same H1 H → Y i H x H' → (∀ v, fv i = some v → ∀ H4, Same H H4 → Q' v H4) → (fv i = none → ∀ H4, Same H H4 → N' H4) →
      g x (wipe σ vs) H' fun σ2 H2 => wipe σ2 vs = wipe σ vs ∧ tt σ2 H2 fun b H3 => if b = true then te σ2 H3 Q' else N' H3)
    (hd : ∀ H, Same H1 H → H D = some (.lst ((List.range n).filterMap fv)) → Qd H) : CompOut J g tt te vs σ D Qd H1 := by
  refine lc_it w (fun i H => Same H1 H ∧ H D = some (.lst ((List.range i).filterMap fv))) ⟨same_upd hD, upd_same⟩ (fun i H _ h => hG H h.1) ?_ (fun H h => hd H h.1 h.2)
  rintro i x H H' hi ⟨sm, hd'⟩ y
  have hl : ((List.range i).filterMap fv).length < sizeLine := by
    have := List.length_filterMap_le fv (List.range i)
    rw [List.length_range] at this
    omega
  have q := hs i x H H' (fun v H4 => ∃ acc, H4 D = some (.lst acc) ∧ acc.length < sizeLine ∧ Same H1 (upd H4 D (.lst (acc ++ [v]))) ∧ (upd H4 D (.lst (acc ++ [v]))) D = some (.lst ((List.range (i + 1)).filterMap fv)))
    (fun H4 => Same H1 H4 ∧ H4 D = some (.lst ((List.range (i + 1)).filterMap fv))) hi sm y
    (fun v hv H4 s4 => ⟨_, s4 _ _ hd', hl, same_grow s4 hD sm, by rw [upd_same, range_fm_snoc fv i hv]⟩) (fun hv H4 s4 => ⟨sm.trans s4, by rw [← range_fm_skip fv i hv]; exact s4 _ _ hd'⟩)
  exact q
/-! ### with the bag -/
/-- all that stood stands, the bag aside -/
def BS (b g : Addr) (H H' : Hp) : Prop := (∀ p o, p ≠ b → p ≠ g → H p = some o → H' p = some o) ∧ (∀ p, p ≠ b → p ≠ g → H' p = none → H p = none)
theorem BS.refl {b g : Addr} {H : Hp} : BS b g H H := ⟨fun _ _ _ _ h => h, fun _ _ _ h => h⟩
theorem BS.of {b g : Addr} {H H' : Hp} (h : ∀ p o, p ≠ b → p ≠ g → H p = some o → H' p = some o) : BS b g H H' := ⟨h, fun p h1 h2 e => by
  cases q : H p with
  | none => rfl
  | some o => rw [h p o h1 h2 q] at e; cases e⟩
theorem BS.trans {b g : Addr} {H H1 H2 : Hp} (x : BS b g H H1) (y : BS b g H1 H2) : BS b g H H2 := .of fun p o h1 h2 e => y.1 p o h1 h2 (x.1 p o h1 h2 e)
theorem BS.same {b g : Addr} {H H' : Hp} (s : Same H H') : BS b g H H' := .of fun p o _ _ e => s _ _ e
theorem BS.but {b g : Addr} {H H' : Hp} (s : But b g H H') : BS b g H H' := .of fun p o h1 h2 e => by rw [s p h1 h2]; exact e
theorem BagAt.same {b g : Addr} {H H' : Hp} (h : BagAt H b g) (s : Same H H') : BagAt H' b g := by
  obtain ⟨ne, ns, sd, n, c, h1, h2, h3⟩ := h
  exact ⟨ne, ns, sd, n, c, s _ _ h1, s _ _ h2, h3⟩
theorem BagAt.neb {b g p : Addr} {H : Hp} (h : BagAt H b g) (e : H p = none) : p ≠ b ∧ p ≠ g := by
  obtain ⟨ne, ns, sd, n, c, h1, h2, h3⟩ := h
  exact ⟨fun z => (by rw [z, h1] at e; cases e), fun z => (by rw [z, h2] at e; cases e)⟩
theorem BagAt.updN {b g p : Addr} {H : Hp} {o : HO} (h : BagAt H b g) (h1 : p ≠ b) (h2 : p ≠ g) : BagAt (upd H p o) b g := by
  obtain ⟨ne, ns, sd, n, c, e1, e2, h3⟩ := h
  exact ⟨ne, ns, sd, n, c, by rw [upd_ne h1.symm]; exact e1, by rw [upd_ne h2.symm]; exact e2, h3⟩
/-- a comprehension whose parts draw -/
theorem lcB (w : Walk J n G Y) {g : TG} {te : TE} {vs : List Nat} {σ : St} {H1 : Hp} {D b b2 : Addr} {Qd : Hp → Prop} (Pv : V → Prop) (hn : n < sizeLine) (hD : H1 D = none) (hB : BagAt H1 b b2) (hG : ∀ H', BS b b2 H1 H' → G H')
    (hs : ∀ i x H H' (Q' : VK), i < n → BS b b2 H1 H → BagAt H b b2 → Y i H x H' → (∀ v H4, Pv v → BS b b2 H H4 → BagAt H4 b b2 → Q' v H4) → g x (wipe σ vs) H' fun σ2 H2 => wipe σ2 vs = wipe σ vs ∧ te σ2 H2 Q')
    (hd : ∀ H xs, BS b b2 H1 H → BagAt H b b2 → H D = some (.lst xs) → xs.length = n → (∀ v ∈ xs, Pv v) → Qd H) : CompOut J g tYes te vs σ D Qd H1 := by
  obtain ⟨nb, ng⟩ := hB.neb hD
  refine lc_it w (tt := tYes) (fun i H => BS b b2 H1 H ∧ BagAt H b b2 ∧ ∃ xs, H D = some (.lst xs) ∧ xs.length = i ∧ ∀ v ∈ xs, Pv v) ⟨.same (same_upd hD), hB.updN nb ng, [], upd_same, rfl, fun v h => nomatch h⟩ (fun i H _ h => hG H h.1)
    ?_ (fun H ⟨h1, h2, xs, h3, h4, h5⟩ => hd H xs h1 h2 h3 h4 h5)
  rintro i x H H' hi ⟨sm, hb, xs, hd', hl, hp⟩ y
  exact hs i x H H' _ hi sm hb y (fun v H4 hv s4 hb4 => ⟨_, s4.1 _ _ nb ng hd', by omega, .of fun p o h1 h2 e => by
      rw [upd_ne (ne_of_none e hD)]
      exact s4.1 _ _ h1 h2 (sm.1 _ _ h1 h2 e), hb4.updN nb ng, xs ++ [v], upd_same, by rw [List.length_append, hl]; rfl, fun z hz => by
        rcases List.mem_append.mp hz with hz | hz
        · exact hp z hz
        · rw [List.mem_singleton] at hz; rw [hz]; exact hv⟩)
end
end L2.My
end
section
set_option Elab.async false
set_option linter.all false
set_option maxRecDepth 100000
set_option maxHeartbeats 4000000
namespace L2.My
open PySem PySem.Spec PyProof.Rows
/-- a thing of a type -/
inductive ThT (H : Hp) : V → String → Prop where
  | non : ThT H .non "NoneType"
  | bl (b : Bool) : ThT H (.bl b) "bool"
  | int (i : Int) : ThT H (.int i) "int"
  | str (x : Str) : ThT H (.str x) "str"
  | lst {a : Addr} {xs : List V} (h : H a = some (.lst xs)) : ThT H (.ref a) "list"
  | tup {a : Addr} {xs : List V} (h : H a = some (.tup xs)) : ThT H (.ref a) "tuple"
  | dct {a : Addr} {kvs : List (Key × V)} (h : H a = some (.dK kvs)) : ThT H (.ref a) "dict"
def instT (t n : String) : Bool := t == n || (t == "bool" && n == "int")
theorem ThT.tyX {K : PySem.W.Frag} {H : Hp} {v : V} {t : String} (h : ThT H v t) : TyX K H v (.type t) := by
  cases h with
  | non => exact .base .non
  | bl b => exact .base (.bl b)
  | int i => exact .base (.int i)
  | str x => exact .base (.str x)
  | lst h => exact .base (.lst h)
  | tup h => exact .base (.tup h)
  | dct h => exact .base (.dK h)
theorem kitB_all : ∀ t ∈ ["NoneType", "bool", "int", "str", "list", "tuple", "dict"], ∀ n ∈ ["bool", "int", "str", "list", "tuple", "dict"], kitB t n = some (instT t n) := by decide +kernel
theorem ThT.mem {H : Hp} {v : V} {t : String} (h : ThT H v t) : t ∈ ["NoneType", "bool", "int", "str", "list", "tuple", "dict"] := by
  cases h <;> decide
theorem ThT.keep {H H' : Hp} {v : V} {t : String} (h : ThT H v t) (s : Same H H') : ThT H' v t := by
  cases h with
  | non => exact .non
  | bl b => exact .bl b
  | int i => exact .int i
  | str x => exact .str x
  | lst h => exact .lst (s _ _ h)
  | tup h => exact .tup (s _ _ h)
  | dct h => exact .dct (s _ _ h)
/-- isinstance(v, n) -/
def rIsTh : List V → Hp → VK → Prop := fun xs H Q => ∃ v n t, xs = [v, .ty n] ∧ ThT H v t ∧ n ∈ ["bool", "int", "str", "list", "tuple", "dict"] ∧ Q (.bl (instT t n)) H
theorem call_isTh {X : Cx} : CallR X (.builtin "isinstance") rIsTh := by
  intro pins s σ H xs us Q I r h
  obtain ⟨v, n, t, rfl, ht, hn, q⟩ := h
  exact call_isi pins s σ H _ us Q I r ⟨_, _, _, _, _, rfl, .ty _, ht.tyX, kit_ty (kitB_all t ht.mem n hn), q⟩
def belowV (n : Int) : V → Bool
  | .int i => decide (0 ≤ i ∧ i < n)
  | _ => false
def goodC (c : Nat) : Bool := decide (32 ≤ c) && decide (c ≤ 126)
def nameV : V → Bool
  | .str x => decide (x.length ≤ 40) && x.cps.toList.all goodC
  | _ => false
structure PlTxt (mg : Str → Option Value) : Prop where
  isi : mg "isinstance" = none
  int_ : mg "int" = none
  bool_ : mg "bool" = none
  str_ : mg "str" = none
  len_ : mg "len" = none
  all_ : mg "all" = none
  tuple_ : mg "tuple" = none
  list_ : mg "list" = none
  max_ : mg "max" = none
  sorted_ : mg "sorted" = none
  most : ∃ t, mg "MOST_SIGNS" = some (.int 40 t)
abbrev sBelow : Stmt := top 14
abbrev sSign : Stmt := top 15
abbrev sNameT : Stmt := top 16
def spBelow : Sp := fun vs H Q _ => ∃ n v t, vs = [.int n, v] ∧ ThT H v t ∧ Q (.bl (belowV n v)) H
def spSign : Sp := fun vs H Q _ => ∃ c : Nat, vs = [.str ⟨#[c]⟩] ∧ Q (.bl (goodC c)) H
def spNameT : Sp := fun vs H Q _ => ∃ v t, vs = [v] ∧ ThT H v t ∧ (∀ x, v = .str x → x.length ≤ 100000) ∧ ∀ H', Same H H' → Q (.bl (nameV v)) H'
section
variable {P : Program} {w : World} {K : PySem.W.Frag} {mg : Str → Option Value} {base : Heap}
theorem scBelow : FnScope ["bound", "thing"] ["bound", "thing"] (defScope sBelow) := ⟨rfl, rfl, rfl, by decide +kernel, rfl, by decide +kernel, by decide +kernel⟩
theorem ok_below {f : Addr} {fd : FuncData} {k : Nat} (F : Fun K "is_below" "is_below" sBelow f fd) (T : PlTxt mg) : FnOk P w K mg base CX0 (k + 1) f fd ["bound", "thing"] spBelow := by
  refine F.ok scBelow (fun vs H Q E h => ?_) (fun cdv A outer s H vs Q E hr h => ?_)
  · obtain ⟨n, v, t, rfl, _⟩ := h
    rfl
  · obtain ⟨n, v, t, rfl, ht, q⟩ := h
    refine ⟨_, pss_cons (ps_if (pt_or (pt_not (pt_val (pe_callB call_isTh (by rfl) T.isi (by decide +kernel) (pa_cons (pv 1) (pa_cons (pe_bltn (v := .ty "int") (u := .type "int") (by rfl) T.int_ (by decide +kernel) rfl) pa_nil)))))
        (pw_or1 (pt_val (pe_callB call_isTh (by rfl) T.isi (by decide +kernel) (pa_cons (pv 1) (pa_cons (pe_bltn (v := .ty "bool") (u := .type "bool") (by rfl) T.bool_ (by decide +kernel) rfl) pa_nil))))))
        (pss_one (ps_ret pe_bl)) pss_nil) (pss_one (ps_ret (pe_chain op_le op_lt pe_int (pv 1) (pv 0)))), ?_⟩
    refine ⟨_, rfl, v, "int", t, rfl, ht, by decide, _, rfl, ?_⟩
    cases ht with
    | int i =>
      refine iteF ⟨_, rfl, _, "bool", _, rfl, .int i, by decide, _, rfl, iteF ?_⟩
      refine ⟨_, rfl, ?_⟩
      refine ⟨_, _, rfl, rfl, _, rfl, ?_⟩
      by_cases h0 : 0 ≤ i
      · rw [decide_eq_true h0]
        refine iteT ⟨_, rfl, _, _, rfl, rfl, ?_⟩
        have e : belowV n (.int i) = decide (i < n) := by simp [belowV, h0]
        rw [e] at q
        exact q
      · rw [decide_eq_false h0]
        have e : belowV n (.int i) = false := by simp [belowV, h0]
        rw [e] at q
        exact iteF q
    | bl b => exact iteF ⟨_, rfl, _, "bool", _, rfl, .bl b, by decide, _, rfl, iteT q⟩
    | non => exact iteT (iteT q)
    | str x => exact iteT (iteT q)
    | lst h => exact iteT (iteT q)
    | tup h => exact iteT (iteT q)
    | dct h => exact iteT (iteT q)
theorem scSign : FnScope ["sign"] ["sign"] (defScope sSign) := ⟨rfl, rfl, rfl, by decide +kernel, rfl, by decide +kernel, by decide +kernel⟩
theorem lt1 (a b : Nat) : decide (([a] : List Nat) < [b]) = decide (a < b) := by
  by_cases h : a < b
  · rw [decide_eq_true h, decide_eq_true (by exact List.Lex.rel h)]
  · rw [decide_eq_false h]
    refine decide_eq_false fun z => ?_
    rcases (List.cons_lt_cons_iff.mp z) with z | z
    · exact h z
    · exact absurd z.2 (by simp)
theorem ok_sign {f : Addr} {fd : FuncData} {k : Nat} (F : Fun K "is_sign" "is_sign" sSign f fd) : FnOk P w K mg base CX0 (k + 1) f fd ["sign"] spSign := by
  refine F.ok scSign (fun vs H Q E h => ?_) (fun cdv A outer s H vs Q E hr h => ?_)
  · obtain ⟨c, rfl, _⟩ := h
    rfl
  · obtain ⟨c, rfl, q⟩ := h
    refine ⟨_, pss_one (ps_ret (pe_chain op_le_str op_le_str pe_str (pv 0) pe_str)), ?_⟩
    have e1 : (⟨#[c]⟩ : Str).cps.toList = [c] := rfl
    have e2 : ((" " : Str).cps.toList) = [32] := by decide +kernel
    have e3 : (("~" : Str).cps.toList) = [126] := by decide +kernel
    refine ⟨_, rfl, _, _, rfl, rfl, _, rfl, ?_⟩
    rw [e1, e2, lt1]
    by_cases h : c < 32
    · rw [decide_eq_true h]
      have e : goodC c = false := by simp [goodC]; omega
      rw [e] at q
      exact iteF q
    · rw [decide_eq_false h]
      refine iteT ⟨_, _, rfl, rfl, ?_⟩
      rw [e1, e3, lt1]
      have e : goodC c = !decide (126 < c) := by
        rw [show goodC c = (decide (32 ≤ c) && decide (c ≤ 126)) from rfl, decide_eq_true (show 32 ≤ c by omega), Bool.true_and]
        by_cases h2 : c ≤ 126
        · rw [decide_eq_true h2, decide_eq_false (show ¬ 126 < c by omega)]; rfl
        · rw [decide_eq_false h2, decide_eq_true (show 126 < c by omega)]; rfl
      rw [e] at q
      exact q
theorem scNameT : FnScope ["thing", "sign"] ["thing"] (defScope sNameT) := ⟨rfl, rfl, rfl, by decide +kernel, rfl, by decide +kernel, by decide +kernel⟩
theorem ok_nameT {f fS : Addr} {fd fdS : FuncData} {k : Nat} (F : Fun K "is_name_text" "is_name_text" sNameT f fd) (T : PlTxt mg) (FS : Fun K "is_sign" "is_sign" sSign fS fdS) (gS : mg "is_sign" = some (.ref fS)) (bS : Binds K fdS ["sign"] []) : FnOk P w K mg base CX0 (k + 2) f fd ["thing"] spNameT := by
  have GS : FnOk P w K mg base CX0 (k + 1) fS fdS ["sign"] spSign := ok_sign FS
  obtain ⟨tm, hm⟩ := T.most
  refine F.ok scNameT (fun vs H Q E h => ?_) (fun cdv A outer s H vs Q E hr h => ?_)
  · obtain ⟨v, t, rfl, _⟩ := h
    rfl
  · obtain ⟨v, t, rfl, ht, hx, q⟩ := h
    refine ⟨_, pss_cons (ps_if (pt_or (pt_not (pt_val (pe_callB call_isTh (by rfl) T.isi (by decide +kernel) (pa_cons (pv 0) (pa_cons (pe_bltn (v := .ty "str") (u := .type "str") (by rfl) T.str_ (by decide +kernel) rfl) pa_nil)))))
        (pw_or1 (pt_cmpR op_gt (pe_callB call_len_str (by rfl) T.len_ PySem.boot_len (pa_cons (pv 0) pa_nil)) (pe_glob (v := .int 40) (by rfl) hm ⟨tm, rfl⟩) (nomark _))))
        (pss_one (ps_ret pe_bl)) pss_nil) (pss_one (ps_ret (pe_callB (cr_all rfl) (by rfl) T.all_ (by decide +kernel) (pa_cons (pe_lc (own := [("sign", 1)]) (g := gName 1) rfl scNameT.nd (pi_str (pv 0))
          (blkOk_by (N := ["thing", "sign"]) (sc := defScope sNameT) (by decide +kernel)) (fun _ _ _ _ _ => pg_name (i := 1) scNameT.nd rfl (Or.inl rfl)) (fun _ _ _ _ _ => pts_nil)
          (fun _ _ _ _ _ => pe_call GS hr (by rfl) gS FS.kp bS .nil pass0 (pa_cons (pv 1) pa_nil))) pa_nil)))), ?_⟩
    refine ⟨_, rfl, v, "str", t, rfl, ht, by decide, _, rfl, ?_⟩
    cases ht with
    | str x =>
      refine iteF ⟨_, rfl, _, rfl, Nat.le_trans (hx x rfl) (by decide), ?_⟩
      refine ⟨_, _, rfl, rfl, _, rfl, ?_⟩
      by_cases h40 : x.length ≤ 40
      · rw [decide_eq_false (by omega)]
        refine iteF ⟨_, rfl, _, rfl, fun D hD => ?_⟩
        refine lcP walk_str (fun i => V.bl (goodC (x.cps.toList.getD i 0))) (Nat.lt_of_le_of_lt (show x.cps.size ≤ 40 from h40) (by decide)) hD (fun _ _ => trivial) ?_ ?_
        · rintro i y H1 H2 Q' hi sm ⟨rfl, c, hc, rfl⟩ hq
          refine ⟨rfl, _, rfl, c, rfl, ?_⟩
          have e : x.cps.toList.getD i 0 = c := by
            rw [List.getD_eq_getElem?_getD, Array.getElem?_toList, hc]; rfl
          rw [e] at hq
          exact hq _ (Same.refl _)
        · intro H' sm hd
          refine ⟨D, (List.range x.cps.size).map fun i => goodC (x.cps.toList.getD i 0), rfl, .inl (.inl (by rw [hd, List.map_map]; rfl)), ?_⟩
          have e : nameV (.str x) = ((List.range x.cps.size).map fun i => goodC (x.cps.toList.getD i 0)).all id := by
            show (decide (x.length ≤ 40) && x.cps.toList.all goodC) = _
            rw [decide_eq_true h40, Bool.true_and, List.all_map]
            rw [Bool.eq_iff_iff, List.all_eq_true, List.all_eq_true]
            constructor
            · intro h i hi
              have hi : i < x.cps.toList.length := by simpa using hi
              show goodC (x.cps.toList.getD i 0) = true
              rw [List.getD_eq_getElem?_getD, List.getElem?_eq_getElem hi]
              exact h _ (List.getElem_mem hi)
            · intro h c hc
              obtain ⟨i, hi, rfl⟩ := List.mem_iff_getElem.mp hc
              have := h i (by simpa using hi)
              have q : goodC (x.cps.toList.getD i 0) = true := this
              rw [List.getD_eq_getElem?_getD, List.getElem?_eq_getElem hi] at q
              exact q
          rw [← e]
          exact q _ sm
      · rw [decide_eq_true (by omega)]
        have e : nameV (.str x) = false := by simp [nameV, h40]
        rw [e] at q
        exact iteT (q _ (Same.refl H))
    | int i => exact iteT (iteT (q _ (Same.refl H)))
    | bl b => exact iteT (iteT (q _ (Same.refl H)))
    | non => exact iteT (iteT (q _ (Same.refl H)))
    | lst h => exact iteT (iteT (q _ (Same.refl H)))
    | tup h => exact iteT (iteT (q _ (Same.refl H)))
    | dct h => exact iteT (iteT (q _ (Same.refl H)))
end
end L2.My
end
section
set_option Elab.async false
set_option linter.all false
set_option maxRecDepth 100000
set_option maxHeartbeats 4000000
namespace L2.My
open PySem PySem.Spec PyProof.Rows
/-! ### entries -/
def leafK (k : Str) : Bool := decide (k ∈ (["name", "number", "fresh"] : List Str))
def intK : Key → Option Int
  | .inl i => some i
  | .inr _ => none
def inner (e : Ent) : List Int := if leafK e.1 = true then [] else e.2.filterMap intK
def cntF (es : List Ent) : Nat := es.countP fun e => decide (e.1 = ("fresh" : Str))
def sizesK : List (Str × Nat) := [("made", 2), ("lock", 1), ("box", 2), ("chest", 2), ("mark", 2), ("print", 1)]
/-- an entry may stand behind n others -/
inductive Ok1 (n : Nat) : Ent → Prop where
  | name (x : Str) (h : nameV (.str x) = true) : Ok1 n ("name", [.inr x])
  | num (i : Int) (h0 : 0 ≤ i) (h1 : i < 10 ^ 12) : Ok1 n ("number", [.inl i])
  | fresh (i : Int) (h0 : 0 ≤ i) : Ok1 n ("fresh", [.inl i])
  | row (is : List Int) (hl : is.length ≤ 400) (h : ∀ i ∈ is, 0 ≤ i ∧ i < n) : Ok1 n ("row", is.map .inl)
  | parts (k : Str) (is : List Int) (hk : (k, is.length) ∈ sizesK) (h : ∀ i ∈ is, 0 ≤ i ∧ i < n) : Ok1 n (k, is.map .inl)
structure WF (n : Int) (es : List Ent) : Prop where
  ok : ∀ (i : Nat) (e : Ent), es[i]? = some e → Ok1 i e
  nd : es.Nodup
  fr : ∀ i, (("fresh", [.inl i]) : Ent) ∈ es → 0 ≤ i ∧ i < n
theorem fm_inl (is : List Int) : (is.map (Sum.inl (β := Str))).filterMap intK = is := by
  induction is with
  | nil => rfl
  | cons i r ih => rw [List.map_cons, List.filterMap_cons]; simp [intK, ih]
theorem leaf_sizes : ∀ p ∈ sizesK, leafK p.1 = false := by decide +kernel
theorem inner_row (is : List Int) : inner ("row", is.map .inl) = is := by
  unfold inner
  rw [if_neg (show ¬ leafK "row" = true by decide +kernel)]
  exact fm_inl is
theorem inner_parts {k : Str} {is : List Int} (hk : (k, is.length) ∈ sizesK) : inner (k, is.map .inl) = is := by
  unfold inner
  rw [leaf_sizes _ hk, if_neg (by decide)]
  exact fm_inl is
theorem Ok1.inner_lt {n : Nat} {e : Ent} (h : Ok1 n e) : ∀ i ∈ inner e, 0 ≤ i ∧ i < n := by
  cases h with
  | name x h => intro i hi; exact nomatch (show i ∈ ([] : List Int) from hi)
  | num j h0 h1 => intro i hi; exact nomatch (show i ∈ ([] : List Int) from hi)
  | fresh j h0 => intro i hi; exact nomatch (show i ∈ ([] : List Int) from hi)
  | row is hl h => rw [inner_row]; exact h
  | parts k is hk h => rw [inner_parts hk]; exact h
/-- the parts of what is no leaf are its inner terms -/
theorem Ok1.parts_eq {n : Nat} {e : Ent} (h : Ok1 n e) (hl : leafK e.1 = false) : e.2.map kV = (inner e).map .int := by
  cases h with
  | name x h => exact absurd hl (show ¬ leafK "name" = false by decide +kernel)
  | num j h0 h1 => exact absurd hl (show ¬ leafK "number" = false by decide +kernel)
  | fresh j h0 => exact absurd hl (show ¬ leafK "fresh" = false by decide +kernel)
  | row is _ h => rw [inner_row, List.map_map]; rfl
  | parts k is hk h => rw [inner_parts hk, List.map_map]; rfl
theorem Ok1.short {n : Nat} {e : Ent} (h : Ok1 n e) : e.2.length ≤ 400 := by
  cases h with
  | name x h => show 1 ≤ 400; decide
  | num j h0 h1 => show 1 ≤ 400; decide
  | fresh j h0 => show 1 ≤ 400; decide
  | row is hl h => rw [List.length_map]; exact hl
  | parts k is hk h =>
    rw [List.length_map]
    have : ∀ p ∈ sizesK, p.2 ≤ 400 := by decide +kernel
    exact this _ hk
/-- the greatest, 0 at least -/
def IsMax0 (ns : List Int) (m : Int) : Prop := (m = 0 ∨ m ∈ ns) ∧ 0 ≤ m ∧ ∀ y ∈ ns, y ≤ m
theorem IsMax0.unique {ns : List Int} {m m' : Int} (h : IsMax0 ns m) (h' : IsMax0 ns m') : m = m' := by
  obtain ⟨a, b, c⟩ := h
  obtain ⟨a', b', c'⟩ := h'
  rcases a with rfl | a <;> rcases a' with rfl | a'
  · rfl
  · have := c _ a'; omega
  · have := c' _ a; omega
  · have := c' _ a; have := c _ a'; omega
def DepOk (es : List Ent) (ds : List Int) : Prop := ds.length = es.length ∧ ∀ (i : Nat) (e : Ent), es[i]? = some e → ∃ m : Int, IsMax0 ((inner e).map fun p => ds.getD p.toNat 0) m ∧ ds[i]? = some (1 + m)
/-! ### the book -/
structure BP where
  b : Addr
  dx : Addr
  lk : Addr
  lp : Addr
  ld : Addr
  dn : Addr
def BP.foot (B : BP) : List Addr := [B.b, B.lk, B.lp, B.ld, B.dn]
def fieldsB (B : BP) (n : Int) : List (Str × V) := [("_kinds", .ref B.lk), ("_parts", .ref B.lp), ("_depths", .ref B.ld), ("_numbers", .ref B.dn), ("_fresh_count", .int n)]
def NumsOk (kvs : List (Ent × Addr × V)) (es : List Ent) : Prop := kvs.length = es.length ∧ ∀ (i : Nat) (e : Ent), es[i]? = some e → ∃ q : Addr, kvs[i]? = some (e, q, V.int (i : Nat))
structure BookN (P : Program) (w : World) (H : Hp) (C : Addr) (B : BP) (n : Int) (es : List Ent) : Prop where
  ins : H B.b = some (.ins C B.dx (fieldsB B n))
  kinds : H B.lk = some (.lst (es.map fun e => .str e.1))
  parts : ∃ ps : List Addr, H B.lp = some (.lst (ps.map .ref)) ∧ Paired (fun (p : Addr) (e : Ent) => H p = some (.tup (e.2.map kV))) ps es
  deps : ∃ ds : List Int, H B.ld = some (.lst (ds.map .int)) ∧ DepOk es ds
  nums : ∃ kvs, NumAt P w H B.dn kvs ∧ NumsOk kvs es
  ne : B.lk ≠ B.lp ∧ B.lk ≠ B.ld ∧ B.lp ≠ B.ld
  wf : WF n es
  len : es.length ≤ 30000
abbrev BookAt (P : Program) (w : World) (H : Hp) (C : Addr) (B : BP) (es : List Ent) : Prop := BookN P w H C B (cntF es : Nat) es
structure BkC (K : PySem.W.Frag) (C : Addr) : Prop where
  cls : Cls K C
  na : ∀ f ∈ (["_kinds", "_parts", "_depths", "_numbers", "_fresh_count"] : List Str), NoAttr K C f
/-- frames: all but some addresses stays -/
def BL (L : List Addr) (H H' : Hp) : Prop := ∀ p o, p ∉ L → H p = some o → H' p = some o
theorem BL.refl {L : List Addr} {H : Hp} : BL L H H := fun _ _ _ h => h
theorem BL.trans {L : List Addr} {H H1 H2 : Hp} (x : BL L H H1) (y : BL L H1 H2) : BL L H H2 := fun p o h e => y p o h (x p o h e)
theorem BL.same {L : List Addr} {H H' : Hp} (s : Same H H') : BL L H H' := fun p o _ e => s _ _ e
theorem BL.upd {L : List Addr} {H : Hp} {p : Addr} {o : HO} (h : p ∈ L) : BL L H (upd H p o) := fun q u hq e => by
  rw [upd_ne (fun z => hq (by rw [z]; exact h))]; exact e
theorem EntAt.keep {H H' : Hp} {a : Addr} {e : Ent} (h : EntAt H a e) (s : ∀ b xs, H b = some (.tup xs) → H' b = some (.tup xs)) : EntAt H' a e := by
  obtain ⟨p, h1, h2⟩ := h
  exact ⟨p, s _ _ h1, s _ _ h2⟩
section
variable {P : Program} {w : World} {H H' : Hp} {C : Addr} {B : BP} {n : Int} {es : List Ent}
/-- a book stands where its own parts and all tuples stand -/
theorem BookN.keep (h : BookN P w H C B n es) (sf : ∀ p ∈ B.foot, H' p = H p) (st : ∀ b xs, H b = some (.tup xs) → H' b = some (.tup xs)) : BookN P w H' C B n es := by
  obtain ⟨a1, a2, ⟨ps, a3, a3'⟩, ⟨ds, a4, a4'⟩, ⟨kvs, ⟨a5, a6⟩, a5'⟩, a7, a8, a9⟩ := h
  refine ⟨?_, ?_, ⟨ps, ?_, Paired.mapP a3' fun _ _ z => st _ _ z⟩, ⟨ds, ?_, a4'⟩, ⟨kvs, ⟨?_, fun x hx => (a6 x hx).keep st⟩, a5'⟩, a7, a8, a9⟩
  · rw [sf _ (by simp [BP.foot])]; exact a1
  · rw [sf _ (by simp [BP.foot])]; exact a2
  · rw [sf _ (by simp [BP.foot])]; exact a3
  · rw [sf _ (by simp [BP.foot])]; exact a4
  · rw [sf _ (by simp [BP.foot])]; exact a5
theorem BookN.there (h : BookN P w H C B n es) : ∀ p ∈ B.foot, ∃ o, H p = some o := by
  obtain ⟨a1, a2, ⟨ps, a3, a3'⟩, ⟨ds, a4, a4'⟩, ⟨kvs, ⟨a5, a6⟩, a5'⟩, a7, a8, a9⟩ := h
  intro p hp
  simp only [BP.foot, List.mem_cons, List.not_mem_nil, or_false] at hp
  rcases hp with rfl | rfl | rfl | rfl | rfl
  · exact ⟨_, a1⟩
  · exact ⟨_, a2⟩
  · exact ⟨_, a3⟩
  · exact ⟨_, a4⟩
  · exact ⟨_, a5⟩
theorem BookN.notup (h : BookN P w H C B n es) : ∀ p ∈ B.foot, ∀ xs, H p ≠ some (.tup xs) := by
  obtain ⟨a1, a2, ⟨ps, a3, a3'⟩, ⟨ds, a4, a4'⟩, ⟨kvs, ⟨a5, a6⟩, a5'⟩, a7, a8, a9⟩ := h
  intro p hp xs e
  simp only [BP.foot, List.mem_cons, List.not_mem_nil, or_false] at hp
  rcases hp with rfl | rfl | rfl | rfl | rfl
  · rw [a1] at e; cases e
  · rw [a2] at e; cases e
  · rw [a3] at e; cases e
  · rw [a4] at e; cases e
  · rw [a5] at e; cases e
/-- behind a change of L the book, apart from L, stands -/
theorem BookN.bl {L : List Addr} (h : BookN P w H C B n es) (s : BL L H H') (hd : ∀ p ∈ B.foot, p ∉ L) (hL : ∀ p ∈ L, ∀ xs, H p ≠ some (.tup xs)) : BookN P w H' C B n es :=
  h.keep (fun p hp => by
    obtain ⟨o, ho⟩ := h.there p hp
    rw [ho, s p o (hd p hp) ho]) fun b xs e => s b _ (fun hb => hL b hb xs e) e
theorem BookN.same (h : BookN P w H C B n es) (s : Same H H') : BookN P w H' C B n es :=
  h.bl (L := []) (.same s) (fun _ _ z => nomatch z) fun _ z => nomatch z
end
/-- the lists of kinds and parts -/
structure BkKP (H : Hp) (C : Addr) (B : BP) (n : Int) (es : List Ent) : Prop where
  ins : H B.b = some (.ins C B.dx (fieldsB B n))
  kinds : H B.lk = some (.lst (es.map fun e => .str e.1))
  parts : ∃ ps : List Addr, H B.lp = some (.lst (ps.map .ref)) ∧ Paired (fun (p : Addr) (e : Ent) => H p = some (.tup (e.2.map kV))) ps es
section
variable {P : Program} {w : World} {H H' : Hp} {C : Addr} {B : BP} {n : Int} {es : List Ent}
theorem BookN.kp (h : BookN P w H C B n es) : BkKP H C B n es := ⟨h.ins, h.kinds, h.parts⟩
/-- the i-th entry's parts -/
theorem BkKP.part (h : BkKP H C B n es) {i : Nat} {e : Ent} (he : es[i]? = some e) : ∃ (ps : List Addr) (p : Addr), H B.lp = some (.lst (ps.map .ref)) ∧ ps[i]? = some p ∧ H p = some (.tup (e.2.map kV)) := by
  obtain ⟨ps, a3, a3'⟩ := h.parts
  have hl := Paired.length a3'
  obtain ⟨hi, _⟩ := List.getElem?_eq_some_iff.mp he
  have hp : ps[i]? = some ps[i] := List.getElem?_eq_getElem (by omega)
  obtain ⟨e', he', q⟩ := paired_get a3' hp
  rw [he] at he'
  cases he'
  exact ⟨ps, ps[i], a3, hp, q⟩
theorem BookN.part (h : BookN P w H C B n es) {i : Nat} {e : Ent} (he : es[i]? = some e) : ∃ (ps : List Addr) (p : Addr), H B.lp = some (.lst (ps.map .ref)) ∧ ps[i]? = some p ∧ H p = some (.tup (e.2.map kV)) := h.kp.part he
theorem IsMax0.congr {ns ms : List Int} {m : Int} (e : ns = ms) (h : IsMax0 ns m) : IsMax0 ms m := e ▸ h
theorem getD_app {ds : List Int} {x : Int} {i : Nat} (h : i < ds.length) : (ds ++ [x]).getD i 0 = ds.getD i 0 := by
  rw [List.getD_eq_getElem?_getD, List.getD_eq_getElem?_getD, List.getElem?_append_left h]
theorem DepOk.snoc {ds : List Int} {e : Ent} {m : Int} (h : DepOk es ds) (wf : ∀ (i : Nat) (e : Ent), es[i]? = some e → Ok1 i e) (ok : Ok1 es.length e) (hm : IsMax0 ((inner e).map fun p => ds.getD p.toNat 0) m) : DepOk (es ++ [e]) (ds ++ [1 + m]) := by
  obtain ⟨hl, h⟩ := h
  refine ⟨by rw [List.length_append, List.length_append, hl]; rfl, fun i e' he' => ?_⟩
  by_cases hi : i < es.length
  · rw [List.getElem?_append_left hi] at he'
    obtain ⟨m', hm', hd⟩ := h i e' he'
    refine ⟨m', hm'.congr (List.map_congr_left fun p hp => ?_), by rw [List.getElem?_append_left (by omega)]; exact hd⟩
    have := (wf i e' he').inner_lt p hp
    exact (getD_app (by omega)).symm
  · have hi2 : i = es.length := by
      have := (List.getElem?_eq_some_iff.mp he').1
      rw [List.length_append] at this
      simp only [List.length_singleton] at this
      omega
    subst hi2
    rw [List.getElem?_append_right (Nat.le_refl _), Nat.sub_self] at he'
    cases (show some e = some e' from he')
    refine ⟨m, hm.congr (List.map_congr_left fun p hp => ?_), by rw [List.getElem?_append_right (by omega), hl, Nat.sub_self]; rfl⟩
    have := ok.inner_lt p hp
    exact (getD_app (by omega)).symm
theorem DepOk.pos {ds : List Int} (h : DepOk es ds) : ∀ y ∈ ds, 0 ≤ y := by
  intro y hy
  obtain ⟨i, hi⟩ := List.mem_iff_getElem?.mp hy
  have hlt : i < es.length := by rw [← h.1]; exact (List.getElem?_eq_some_iff.mp hi).1
  obtain ⟨m, hm, hd⟩ := h.2 i _ (List.getElem?_eq_getElem hlt)
  rw [hi] at hd
  cases hd
  have := hm.2.1
  omega
end
end L2.My
end
section
set_option Elab.async false
set_option linter.all false
set_option maxRecDepth 100000
set_option maxHeartbeats 4000000
namespace L2.My
open PySem PySem.Spec PyProof.Rows
abbrev mth (i : Nat) : Stmt := inClass (top 17) i
abbrev qB (m : String) : Str := Str.ofString ("Book." ++ m)
/-- the facts of the errors that the book raises -/
structure NoTxt (P : Program) (w : World) (K : PySem.W.Frag) (mg : Str → Option Value) (base : Heap) (C0 C1 C2 C3 : Addr) : Prop where
  g0 : mg "NoKind" = some (.ref C0)
  g1 : mg "NoParts" = some (.ref C1)
  g2 : mg "NoTerm" = some (.ref C2)
  g3 : mg "NoTerms" = some (.ref C3)
  i0 : Ini0 P w K mg base C0
  i1 : Ini0 P w K mg base C1
  i2 : Ini0 P w K mg base C2
  i3 : Ini0 P w K mg base C3
def numE (es : List Ent) (e : Ent) : Option Nat := if (es.any fun x => decide (x = e)) = true then some (es.findIdx fun x => decide (x = e)) else none
theorem numE_some {es : List Ent} (nd : es.Nodup) {i : Nat} {e : Ent} (h : es[i]? = some e) : numE es e = some i := by
  obtain ⟨hi, he⟩ := List.getElem?_eq_some_iff.mp h
  have ha : (es.any fun x => decide (x = e)) = true := List.any_eq_true.mpr ⟨e, List.mem_of_getElem? h, decide_eq_true rfl⟩
  unfold numE
  rw [if_pos ha]
  have hlt : es.findIdx (fun x => decide (x = e)) < es.length := List.findIdx_lt_length_of_exists ⟨e, List.mem_of_getElem? h, decide_eq_true rfl⟩
  have hg := List.findIdx_getElem (p := fun x => decide (x = e)) (xs := es) (w := hlt)
  have e1 : es[es.findIdx (fun x => decide (x = e))] = es[i] := by
    rw [he]; exact of_decide_eq_true hg
  exact congrArg some ((List.getElem_inj nd).mp e1)
theorem numE_none {es : List Ent} {e : Ent} (h : e ∉ es) : numE es e = none := by
  unfold numE
  rw [if_neg]
  intro ha
  obtain ⟨x, hx, hxe⟩ := List.any_eq_true.mp ha
  rw [of_decide_eq_true hxe] at hx
  exact h hx
theorem numE_get {es : List Ent} {e : Ent} {i : Nat} (h : numE es e = some i) : es[i]? = some e := by
  unfold numE at h
  by_cases ha : (es.any fun x => decide (x = e)) = true
  · rw [if_pos ha] at h
    cases h
    obtain ⟨x, hx, hxe⟩ := List.any_eq_true.mp ha
    have hlt : es.findIdx (fun x => decide (x = e)) < es.length := List.findIdx_lt_length_of_exists ⟨x, hx, hxe⟩
    rw [List.getElem?_eq_getElem hlt]
    exact congrArg some (of_decide_eq_true (List.findIdx_getElem (p := fun x => decide (x = e)) (xs := es) (w := hlt)))
  · rw [if_neg ha] at h
    cases h
theorem numE_not {es : List Ent} {e : Ent} (h : numE es e = none) : e ∉ es := by
  intro hm
  unfold numE at h
  rw [if_pos (List.any_eq_true.mpr ⟨e, hm, decide_eq_true rfl⟩)] at h
  cases h
def numV : Option Nat → V
  | some i => .int (i : Nat)
  | none => .non
/-- what the dict of a book tells -/
theorem nums_val {kvs : List (Ent × Addr × V)} {es : List Ent} (h : NumsOk kvs es) (nd : es.Nodup) (e : Ent) : (valN kvs e).getD .non = numV (numE es e) := by
  obtain ⟨hl, h⟩ := h
  cases q : numE es e with
  | some i =>
    obtain ⟨a, ha⟩ := h i e (numE_get q)
    have : valN kvs e = some (.int (i : Nat)) := by
      unfold valN
      have key : ∀ x ∈ kvs, x.1 = e → x.2.2 = .int (i : Nat) := by
        intro x hx hxe
        obtain ⟨j, hj⟩ := List.mem_iff_getElem?.mp hx
        have hjl : j < es.length := by rw [← hl]; exact (List.getElem?_eq_some_iff.mp hj).1
        obtain ⟨a', ha'⟩ := h j _ (List.getElem?_eq_getElem hjl)
        rw [hj] at ha'
        cases ha'
        have q2 : numE es e = some j := numE_some nd (by rw [List.getElem?_eq_getElem hjl]; exact congrArg some hxe)
        rw [q] at q2
        cases q2
        rfl
      cases f : kvs.find? fun x => decide (x.1 = e) with
      | none =>
        rw [List.find?_eq_none] at f
        exact absurd (decide_eq_true rfl) (f _ (List.mem_of_getElem? ha))
      | some x =>
        have h1 := List.find?_some f
        have h2 := List.mem_of_find?_eq_some f
        rw [Option.map_some, key x h2 (of_decide_eq_true h1)]
    rw [this]; rfl
  | none =>
    have : valN kvs e = none := by
      apply valN_none
      intro hm
      obtain ⟨x, hx, hxe⟩ := List.mem_map.mp hm
      obtain ⟨j, hj⟩ := List.mem_iff_getElem?.mp hx
      have hjl : j < es.length := by rw [← hl]; exact (List.getElem?_eq_some_iff.mp hj).1
      obtain ⟨a', ha'⟩ := h j _ (List.getElem?_eq_getElem hjl)
      rw [hj] at ha'
      cases ha'
      exact numE_not q (hxe ▸ List.getElem_mem hjl)
    rw [this]; rfl
def spSize (C : Addr) : Sp := fun vs H Q _ => ∃ B n es, vs = [.ref B.b] ∧ BkKP H C B n es ∧ Q (.int (es.length : Nat)) H
def spInner (C : Addr) : Sp := fun vs H Q _ => ∃ B n es e, ∃ i : Nat, vs = [.ref B.b, .int (i : Nat)] ∧ BkKP H C B n es ∧ es[i]? = some e ∧ (∃ m, Ok1 m e) ∧ ∀ H' q, Same H H' → H' q = some (.tup ((inner e).map .int)) → Q (.ref q) H'
def spCheck (P : Program) (w : World) (C C2 : Addr) : Sp := fun vs H Q E => ∃ B n es v t, vs = [.ref B.b, v] ∧ BookN P w H C B n es ∧ ThT H v t ∧ (belowV (es.length : Nat) v = true → Q .non H) ∧ (belowV (es.length : Nat) v = false → E (.ref C2) none H)
/-- kind, parts, depth: R the answer -/
def spTell (P : Program) (w : World) (C C2 : Addr) (R : Hp → BP → List Ent → Nat → V → Prop) : Sp := fun vs H Q E => ∃ B n es v t, vs = [.ref B.b, v] ∧ BookN P w H C B n es ∧ ThT H v t ∧
  (∀ i : Nat, v = .int (i : Nat) → i < es.length → ∀ x, R H B es i x → Q x H) ∧ (belowV (es.length : Nat) v = false → E (.ref C2) none H)
def rKind : Hp → BP → List Ent → Nat → V → Prop := fun _ _ es i x => ∃ e, es[i]? = some e ∧ x = .str e.1
def rParts : Hp → BP → List Ent → Nat → V → Prop := fun H _ es i x => ∃ e p, es[i]? = some e ∧ x = .ref p ∧ H p = some (.tup (e.2.map kV))
def rDepth : Hp → BP → List Ent → Nat → V → Prop := fun H B es i x => ∃ (ds : List Int) (d : Int), H B.ld = some (.lst (ds.map .int)) ∧ DepOk es ds ∧ ds[i]? = some d ∧ x = .int d
theorem below_int {n : Nat} {v : V} (h : belowV (n : Nat) v = true) : ∃ i : Nat, v = .int (i : Nat) ∧ i < n := by
  cases v with
  | int i =>
    have q : 0 ≤ i ∧ i < (n : Int) := of_decide_eq_true h
    exact ⟨i.toNat, by rw [Int.toNat_of_nonneg q.1], by omega⟩
  | _ => exact nomatch h
def spAreT (P : Program) (w : World) (K : PySem.W.Frag) (C : Addr) : Sp := fun vs H Q _ => ∃ B n es a xs, vs = [.ref B.b, .ref a] ∧ BookN P w H C B n es ∧ (SqL K H a xs ∨ SqT K H a xs) ∧ xs.length ≤ 100000 ∧ (∀ x ∈ xs, ∃ t, ThT H x t) ∧ ∀ H', Same H H' → Q (.bl (xs.all (belowV (es.length : Nat)))) H'
def spNumOf (P : Program) (w : World) (C : Addr) : Sp := fun vs H Q _ => ∃ B n es k p, ∃ ks : List Key, vs = [.ref B.b, .str k, .ref p] ∧ BookN P w H C B n es ∧ H p = some (.tup (ks.map kV)) ∧
  ∀ H', Same H H' → Q (numV (numE es (k, ks))) H'
section
variable {P : Program} {w : World} {K : PySem.W.Frag} {mg : Str → Option Value} {base : Heap} {C C0 C1 C2 C3 : Addr}
theorem scSize : FnScope ["self"] ["self"] (defScope (mth 4)) := ⟨rfl, rfl, rfl, by decide +kernel, rfl, by decide +kernel, by decide +kernel⟩
theorem ok_size {f : Addr} {fd : FuncData} {k : Nat} (F : Fun K "size" "Book.size" (mth 4) f fd) (T : PlTxt mg) (c : BkC K C) : FnOk P w K mg base CX0 (k + 1) f fd ["self"] (spSize C) := by
  refine F.ok scSize (fun vs H Q E h => ?_) (fun cdv A outer s H vs Q E hr h => ?_)
  · obtain ⟨B, n, es, rfl, _⟩ := h
    rfl
  · obtain ⟨B, n, es, rfl, hB, q⟩ := h
    refine ⟨_, pss_one (ps_ret (pe_callB call_len_seq (by rfl) T.len_ PySem.boot_len (pa_cons (pe_fld (pv 0) rfl) pa_nil))), ?_⟩
    refine ⟨_, rfl, _, _, _, _, _, rfl, hB.ins, c.cls, c.na _ (by simp), rfl, ?_⟩
    refine ⟨_, _, rfl, .inl (.of hB.kinds), ?_⟩
    rw [List.length_map]
    exact q
theorem scNumOf : FnScope ["self", "kind", "parts"] ["self", "kind", "parts"] (defScope (mth 6)) := ⟨rfl, rfl, rfl, by decide +kernel, rfl, by decide +kernel, by decide +kernel⟩
theorem u2 {k : Nat} {A : Around} (h : Room k A) : A.units + 2 < cLine := by have := h.un; omega
theorem u65 {k : Nat} {A : Around} (h : Room k A) : A.units + 65 < cLine := by have := h.un; omega
theorem ok_numOf {f : Addr} {fd : FuncData} {k : Nat} (F : Fun K "number_of" "Book.number_of" (mth 6) f fd) (c : BkC K C) : FnOk P w K mg base CX0 (k + 1) f fd ["self", "kind", "parts"] (spNumOf P w C) := by
  refine F.ok scNumOf (fun vs H Q E h => ?_) (fun cdv A outer s H vs Q E hr h => ?_)
  · obtain ⟨B, n, es, kd, p, ks, rfl, _⟩ := h
    rfl
  · obtain ⟨B, n, es, kd, p, ks, rfl, hB, hp, q⟩ := h
    refine ⟨_, pss_one (ps_ret (pe_nget (u2 hr) (pe_fld (pv 0) rfl) (pe_tup (pa_cons (pv 1) (pa_cons (pv 2) pa_nil))) ⟨rfl, rfl, rfl, rfl⟩)), ?_⟩
    obtain ⟨kvs, hn, hk⟩ := hB.nums
    refine ⟨_, rfl, _, _, _, _, _, rfl, hB.ins, c.cls, c.na _ (by simp), rfl, ?_⟩
    refine ⟨_, kvs, rfl, hn.rd, _, rfl, _, rfl, by show 2 ≤ sizeLine; decide, fun t nt => ?_⟩
    have s1 : Same H (upd H t (.tup [.str kd, .ref p])) := same_upd nt
    refine ⟨t, (kd, ks), kvs, rfl, ⟨.inl (s1 _ _ hn.1), fun x hx => (hn.2 x hx).keep fun b xs e => s1 _ _ e⟩, ⟨p, upd_same, s1 _ _ hp⟩, ?_⟩
    rw [nums_val hk hB.wf.nd]
    exact q _ s1
theorem scCheck : FnScope ["self", "term"] ["self", "term"] (defScope (mth 12)) := ⟨rfl, rfl, rfl, by decide +kernel, rfl, by decide +kernel, by decide +kernel⟩
theorem pmk_0 {X : Cx} {C : Addr} {x : Str} {p pos : Pos} (T : Ini0 X.prog X.w X.K X.mg X.base C) (hx : X.ex = []) (hr : Room 2 X.A) (hg : Gl X x) (hm : X.mg x = some (.ref C)) (hdb : (x == ("__debug__" : Str)) = false := by decide) :
    PMk X (.Call (.Name x p) [] [] pos) (fun σ H Q => (∀ a, H a = none → X.H_0 a = none) ∧ Q (.ref C) none H) := pmk_no T hx hr hg hm hdb
theorem ok_check {f fB fS : Addr} {fd fdB fdS : FuncData} {k : Nat} (F : Fun K "_check" "Book._check" (mth 12) f fd) (T : PlTxt mg) (c : BkC K C) (N : NoTxt P w K mg base C0 C1 C2 C3) (FB : Fun K "is_below" "is_below" sBelow fB fdB) (gB : mg "is_below" = some (.ref fB)) (bB : Binds K fdB ["bound", "thing"] [])
    (FS : Fun K "size" "Book.size" (mth 4) fS fdS) (mS : Meth K C "size" fS) (bS : Binds K fdS ["self"] []) : FnOk P w K mg base (CX P w) (k + 3) f fd ["self", "term"] (spCheck P w C C2) := by
  have GB : FnOk P w K mg base CX0 (k + 1) fB fdB ["bound", "thing"] spBelow := ok_below FB T
  have GS : FnOk P w K mg base CX0 (k + 1) fS fdS ["self"] (spSize C) := ok_size FS T c
  refine F.okX scCheck (fun vs H Q E h => ?_) (fun cdv A outer s H vs Q E hr h => ?_)
  · obtain ⟨B, n, es, v, t, rfl, _⟩ := h
    rfl
  · obtain ⟨B, n, es, v, t, rfl, hB, ht, q, qe⟩ := h
    have tk := takes_of (X := cxOf (CX P w) P w K mg base ["self", "term"] "Book._check" (defScope (mth 12)) f cdv A outer s H E) (E := E) rfl rfl rfl rfl
    refine ⟨_, pss_one (ps_if (pt_not (pt_val (pe_call GB (hr.mono (by omega)) (by rfl) gB FB.kp bB .nil pass0 (pa_cons (pe_meth0 (pv 0) c.cls mS GS (hr.mono (by omega)) bS .nil pass0) (pa_cons (pv 1) pa_nil)))))
        (pss_one (ps_raise rfl tk (pmk_0 N.i2 rfl (hr.mono (by omega)) (by rfl) N.g2))) pss_nil), ?_⟩
    refine ⟨_, rfl, B.b, B.dx, _, rfl, hB.ins, rfl, B, n, es, rfl, hB.kp, _, rfl, ?_⟩
    refine ⟨_, v, t, rfl, ht, _, rfl, ?_⟩
    cases hb : belowV (es.length : Nat) v with
    | true => exact iteF (q hb)
    | false => exact iteT ⟨fun _ h => h, qe hb⟩
/-- the check of a method's argument, passed on -/
structure ChkC (P : Program) (w : World) (K : PySem.W.Frag) (mg : Str → Option Value) (base : Heap) (C C2 : Addr) (k : Nat) where
  f : Addr
  fd : FuncData
  F : FnOk P w K mg base (CX P w) k f fd ["self", "term"] (spCheck P w C C2)
  m : Meth K C "_check" f
  b : Binds K fd ["self", "term"] []
def ExX {P : Program} {w : World} {K : PySem.W.Frag} {mg : Str → Option Value} {base : Heap} (E : XK) : XK := E
theorem scKind : FnScope ["self", "term"] ["self", "term"] (defScope (mth 7)) := ⟨rfl, rfl, rfl, by decide +kernel, rfl, by decide +kernel, by decide +kernel⟩
theorem ok_kind {f : Addr} {fd : FuncData} {k : Nat} (F : Fun K "kind" "Book.kind" (mth 7) f fd) (c : BkC K C) (G : ChkC P w K mg base C C2 k) : FnOk P w K mg base (CX P w) (k + 1) f fd ["self", "term"] (spTell P w C C2 rKind) := by
  refine F.okX scKind (fun vs H Q E h => ?_) (fun cdv A outer s H vs Q E hr h => ?_)
  · obtain ⟨B, n, es, v, t, rfl, _⟩ := h
    rfl
  · obtain ⟨B, n, es, v, t, rfl, hB, ht, q, qe⟩ := h
    have tk := takes_of (X := cxOf (CX P w) P w K mg base ["self", "term"] "Book.kind" (defScope (mth 7)) f cdv A outer s H E) (E := E) rfl rfl rfl rfl
    refine ⟨_, pss_cons (ps_expr (pe_meth (pv 0) c.cls G.m G.F hr G.b .nil (passes_call tk (E := E) fun _ _ _ _ h => h) (pa_cons (pv 1) pa_nil))) (pss_one (ps_ret (pe_ix ix_list (pe_fld (pv 0) rfl) (pv 1) (fun _ _ => rfl)))), ?_⟩
    refine ⟨_, rfl, B.b, B.dx, _, rfl, hB.ins, rfl, _, rfl, ?_⟩
    refine ⟨B, n, es, v, t, rfl, hB, ht, fun hb => ?_, qe⟩
    obtain ⟨i, rfl, hi⟩ := below_int hb
    refine ⟨_, rfl, _, _, _, _, _, rfl, hB.ins, c.cls, c.na _ (by simp), rfl, _, rfl, ?_⟩
    refine ⟨_, _, _, _, rfl, rfl, .of hB.kinds, atI_nat (j := i) (by rw [List.getElem?_map, List.getElem?_eq_getElem hi]; rfl), q i rfl hi _ ⟨_, List.getElem?_eq_getElem hi, rfl⟩⟩
theorem scParts : FnScope ["self", "term"] ["self", "term"] (defScope (mth 8)) := ⟨rfl, rfl, rfl, by decide +kernel, rfl, by decide +kernel, by decide +kernel⟩
theorem ok_parts {f : Addr} {fd : FuncData} {k : Nat} (F : Fun K "parts" "Book.parts" (mth 8) f fd) (c : BkC K C) (G : ChkC P w K mg base C C2 k) : FnOk P w K mg base (CX P w) (k + 1) f fd ["self", "term"] (spTell P w C C2 rParts) := by
  refine F.okX scParts (fun vs H Q E h => ?_) (fun cdv A outer s H vs Q E hr h => ?_)
  · obtain ⟨B, n, es, v, t, rfl, _⟩ := h
    rfl
  · obtain ⟨B, n, es, v, t, rfl, hB, ht, q, qe⟩ := h
    have tk := takes_of (X := cxOf (CX P w) P w K mg base ["self", "term"] "Book.parts" (defScope (mth 8)) f cdv A outer s H E) (E := E) rfl rfl rfl rfl
    refine ⟨_, pss_cons (ps_expr (pe_meth (pv 0) c.cls G.m G.F hr G.b .nil (passes_call tk (E := E) fun _ _ _ _ h => h) (pa_cons (pv 1) pa_nil))) (pss_one (ps_ret (pe_ix ix_list (pe_fld (pv 0) rfl) (pv 1) (fun _ _ => rfl)))), ?_⟩
    refine ⟨_, rfl, B.b, B.dx, _, rfl, hB.ins, rfl, _, rfl, ?_⟩
    refine ⟨B, n, es, v, t, rfl, hB, ht, fun hb => ?_, qe⟩
    obtain ⟨i, rfl, hi⟩ := below_int hb
    obtain ⟨ps, p, hp, hpi, hpp⟩ := hB.part (List.getElem?_eq_getElem hi)
    refine ⟨_, rfl, _, _, _, _, _, rfl, hB.ins, c.cls, c.na _ (by simp), rfl, _, rfl, ?_⟩
    refine ⟨_, _, _, _, rfl, rfl, .of hp, atI_nat (j := i) (by rw [List.getElem?_map, hpi]; rfl), q i rfl hi _ ⟨_, p, List.getElem?_eq_getElem hi, rfl, hpp⟩⟩
theorem scDepth : FnScope ["self", "term"] ["self", "term"] (defScope (mth 9)) := ⟨rfl, rfl, rfl, by decide +kernel, rfl, by decide +kernel, by decide +kernel⟩
theorem ok_depth {f : Addr} {fd : FuncData} {k : Nat} (F : Fun K "depth" "Book.depth" (mth 9) f fd) (c : BkC K C) (G : ChkC P w K mg base C C2 k) : FnOk P w K mg base (CX P w) (k + 1) f fd ["self", "term"] (spTell P w C C2 rDepth) := by
  refine F.okX scDepth (fun vs H Q E h => ?_) (fun cdv A outer s H vs Q E hr h => ?_)
  · obtain ⟨B, n, es, v, t, rfl, _⟩ := h
    rfl
  · obtain ⟨B, n, es, v, t, rfl, hB, ht, q, qe⟩ := h
    have tk := takes_of (X := cxOf (CX P w) P w K mg base ["self", "term"] "Book.depth" (defScope (mth 9)) f cdv A outer s H E) (E := E) rfl rfl rfl rfl
    refine ⟨_, pss_cons (ps_expr (pe_meth (pv 0) c.cls G.m G.F hr G.b .nil (passes_call tk (E := E) fun _ _ _ _ h => h) (pa_cons (pv 1) pa_nil))) (pss_one (ps_ret (pe_ix ix_list (pe_fld (pv 0) rfl) (pv 1) (fun _ _ => rfl)))), ?_⟩
    refine ⟨_, rfl, B.b, B.dx, _, rfl, hB.ins, rfl, _, rfl, ?_⟩
    refine ⟨B, n, es, v, t, rfl, hB, ht, fun hb => ?_, qe⟩
    obtain ⟨i, rfl, hi⟩ := below_int hb
    obtain ⟨ds, hd, hdo⟩ := hB.deps
    have hdi : ds[i]? = some (ds[i]'(by rw [hdo.1]; exact hi)) := List.getElem?_eq_getElem _
    refine ⟨_, rfl, _, _, _, _, _, rfl, hB.ins, c.cls, c.na _ (by simp), rfl, _, rfl, ?_⟩
    refine ⟨_, _, _, _, rfl, rfl, .of hd, atI_nat (j := i) (by rw [List.getElem?_map, hdi]; rfl), q i rfl hi _ ⟨ds, _, hd, hdo, hdi, rfl⟩⟩
/-- the constant LEAVES -/
structure LeavC (K : PySem.W.Frag) (mg : Str → Option Value) where
  a : Addr
  g : mg "LEAVES" = some (.ref a)
  at_ : ∀ H, SqT K H a [.str "name", .str "number", .str "fresh"]
theorem scInner : FnScope ["self", "term"] ["self", "term"] (defScope (mth 16)) := ⟨rfl, rfl, rfl, by decide +kernel, rfl, by decide +kernel, by decide +kernel⟩
theorem eqv_str (x y : Str) : PyData.eqv (.str x) (.str y) = decide (x = y) := by
  rw [PyData.eqv]
  by_cases h : x = y
  · subst h; simp
  · rw [decide_eq_false h]; exact beq_eq_false_iff_ne.mpr h
theorem shaped_str {x : Str} (h : PyData.strOk x = true) : SeqAt.shaped (.str x) = true := by simp [h, SeqAt.shaped, PyData.canLay0, PyData.depth]
theorem kinds_ok : ∀ x ∈ (["name", "number", "fresh", "row", "made", "lock", "box", "chest", "mark", "print"] : List Str), PyData.strOk x = true := by decide +kernel
theorem sizes_kinds : ∀ p ∈ sizesK, p.1 ∈ (["name", "number", "fresh", "row", "made", "lock", "box", "chest", "mark", "print"] : List Str) := by decide +kernel
theorem Ok1.kind {n : Nat} {e : Ent} (h : Ok1 n e) : e.1 ∈ (["name", "number", "fresh", "row", "made", "lock", "box", "chest", "mark", "print"] : List Str) := by
  cases h with
  | name x h => exact List.mem_cons_self
  | num j h0 h1 => show ("number" : Str) ∈ _; decide +kernel
  | fresh j h0 => show ("fresh" : Str) ∈ _; decide +kernel
  | row is hl h => show ("row" : Str) ∈ _; decide +kernel
  | parts k is hk h => exact sizes_kinds _ hk
theorem shaped_leaves : SeqAt.shaped (.tuple [.str "name", .str "number", .str "fresh"]) = true := by
  have a : PyData.strOk "name" = true := by decide +kernel
  have b : PyData.strOk "number" = true := by decide +kernel
  have c : PyData.strOk "fresh" = true := by decide +kernel
  simp [a, b, c, SeqAt.shaped, PyData.canLay0, PyData.canLayAll0, PyData.depth, PyData.depthAll]
theorem any_leaf (x : Str) : (([.str "name", .str "number", .str "fresh"] : List PyData).any fun z => PyData.eqv z (.str x)) = leafK x := by
  simp only [List.any_cons, List.any_nil, Bool.or_false, eqv_str]
  rw [Bool.eq_iff_iff]
  simp only [leafK, List.mem_cons, List.not_mem_nil, or_false, Bool.or_eq_true, decide_eq_true_eq]
  constructor
  · rintro (h | h | h)
    · exact .inl h.symm
    · exact .inr (.inl h.symm)
    · exact .inr (.inr h.symm)
  · rintro (h | h | h)
    · exact .inl h.symm
    · exact .inr (.inl h.symm)
    · exact .inr (.inr h.symm)
theorem ok_inner {f : Addr} {fd : FuncData} {k : Nat} (F : Fun K "_inner" "Book._inner" (mth 16) f fd) (c : BkC K C) (L : LeavC K mg) : FnOk P w K mg base CX0 (k + 1) f fd ["self", "term"] (spInner C) := by
  refine F.ok scInner (fun vs H Q E h => ?_) (fun cdv A outer s H vs Q E hr h => ?_)
  · obtain ⟨B, n, es, e, i, rfl, _⟩ := h
    rfl
  · obtain ⟨B, n, es, e, i, rfl, hB, he, ⟨om, ok1⟩, q⟩ := h
    refine ⟨_, pss_one (ps_ret (pe_ifExp (pt_cmpR (op_inTD (u65 hr)) (pe_ix ix_list (pe_fld (pv 0) rfl) (pv 1) (fun _ _ => rfl)) (pe_glob (v := .ref L.a) (by rfl) L.g rfl) (by rfl)) (pe_tup pa_nil) (pe_ix ix_list (pe_fld (pv 0) rfl) (pv 1) (fun _ _ => rfl)))), ?_⟩
    obtain ⟨ps, p, hp, hpi, hpp⟩ := hB.part he
    refine ⟨_, rfl, _, _, _, _, _, rfl, hB.ins, c.cls, c.na _ (by simp), rfl, _, rfl, ?_⟩
    refine ⟨_, _, _, _, rfl, rfl, .of hB.kinds, atI_nat (j := i) (by rw [List.getElem?_map, he]; rfl), ?_⟩
    refine ⟨.str e.1, [.str "name", .str "number", .str "fresh"], .str _, .tup (L.at_ _) (.cons (.str _) (.cons (.str _) (.cons (.str _) .nil))), shaped_str (kinds_ok _ ok1.kind), shaped_leaves, _, rfl, ?_⟩
    rw [any_leaf]
    cases hl : leafK e.1 with
    | true =>
      refine iteT ⟨by show 0 ≤ sizeLine; decide, fun t nt => ?_⟩
      refine q _ t (same_upd nt) ?_
      rw [upd_same]
      have e0 : inner e = [] := by unfold inner; rw [if_pos hl]
      rw [e0]; rfl
    | false =>
      refine iteF ⟨_, rfl, _, _, _, _, _, rfl, hB.ins, c.cls, c.na _ (by simp), rfl, _, rfl, ?_⟩
      refine ⟨_, _, _, _, rfl, rfl, .of hp, atI_nat (j := i) (by rw [List.getElem?_map, hpi]; rfl), q _ p (Same.refl H) ?_⟩
      rw [hpp, ok1.parts_eq hl]
theorem seqT {K : PySem.W.Frag} {H H' : Hp} {a : Addr} {xs : List V} (e : Same H H') (h : SqT K H a xs) : SqT K H' a xs := by
  rcases h with (h | ⟨o, h⟩) | h
  · exact .inl (.inl (e _ _ h))
  · exact .inl (.inr ⟨o, e _ _ h⟩)
  · exact .inr h
theorem pi_or {X : Cx} {tg e : Expr} {w1 w2 : TI} (h1 : PI X tg e w1) (h2 : PI X tg e w2) : PI X tg e (fun σ H R => w1 σ H R ∨ w2 σ H R) := ⟨fun pins s σ H R I h => h.elim (h1.run pins s σ H R I) (h2.run pins s σ H R I)⟩
theorem all_range (xs : List V) (f : V → Bool) : ((List.range xs.length).map fun i => f (xs.getD i .non)).all id = xs.all f := by
  rw [List.all_map, Bool.eq_iff_iff, List.all_eq_true, List.all_eq_true]
  constructor
  · intro h c hc
    obtain ⟨i, hi, rfl⟩ := List.mem_iff_getElem.mp hc
    have q : f (xs.getD i .non) = true := h i (List.mem_range.mpr hi)
    rw [List.getD_eq_getElem?_getD, List.getElem?_eq_getElem hi] at q
    exact q
  · intro h i hi
    have hi : i < xs.length := List.mem_range.mp hi
    show f (xs.getD i .non) = true
    rw [List.getD_eq_getElem?_getD, List.getElem?_eq_getElem hi]
    exact h _ (List.getElem_mem hi)
theorem scAreT : FnScope ["self", "things", "size", "thing"] ["self", "things"] (defScope (mth 13)) := ⟨rfl, rfl, rfl, by decide +kernel, rfl, by decide +kernel, by decide +kernel⟩
theorem ok_areT {f fB fS : Addr} {fd fdB fdS : FuncData} {k : Nat} (F : Fun K "_are_terms" "Book._are_terms" (mth 13) f fd) (T : PlTxt mg) (c : BkC K C) (FB : Fun K "is_below" "is_below" sBelow fB fdB) (gB : mg "is_below" = some (.ref fB)) (bB : Binds K fdB ["bound", "thing"] [])
    (FS : Fun K "size" "Book.size" (mth 4) fS fdS) (mS : Meth K C "size" fS) (bS : Binds K fdS ["self"] []) : FnOk P w K mg base CX0 (k + 2) f fd ["self", "things"] (spAreT P w K C) := by
  have GB : FnOk P w K mg base CX0 (k + 1) fB fdB ["bound", "thing"] spBelow := ok_below FB T
  have GS : FnOk P w K mg base CX0 (k + 1) fS fdS ["self"] (spSize C) := ok_size FS T c
  refine F.ok scAreT (fun vs H Q E h => ?_) (fun cdv A outer s H vs Q E hr h => ?_)
  · obtain ⟨B, n, es, a, xs, rfl, _⟩ := h
    rfl
  · obtain ⟨B, n, es, a, xs, rfl, hB, hS, hl, hx, q⟩ := h
    refine ⟨_, pss_cons (ps_set (i := 2) scAreT.nd rfl (Or.inr rfl) (pe_meth0 (pv 0) c.cls mS GS hr bS .nil pass0))
      (pss_one (ps_ret (pe_callB (cr_all rfl) (by rfl) T.all_ (by decide +kernel) (pa_cons (pe_lc (own := [("thing", 3)]) (g := gName 3) rfl scAreT.nd (pi_or (pi_list (pv 1)) (pi_tup (pv 1)))
          (blkOk_by (N := ["self", "things", "size", "thing"]) (sc := defScope (mth 13)) (by decide +kernel)) (fun _ _ _ _ _ => pg_name (i := 3) scAreT.nd rfl (Or.inl rfl)) (fun _ _ _ _ _ => pts_nil)
          (fun _ _ _ _ _ => pe_call GB hr (by rfl) gB FB.kp bB .nil pass0 (pa_cons (pv 2) (pa_cons (pv 3) pa_nil)))) pa_nil)))), ?_⟩
    refine ⟨_, rfl, B.b, B.dx, _, rfl, hB.ins, rfl, B, n, es, rfl, hB.kp, ?_⟩
    have lt : xs.length < sizeLine := Nat.lt_of_le_of_lt hl (by decide)
    have fin : ∀ D H', Same H H' → H' D = some (.lst ((List.range xs.length).map fun i => V.bl (belowV (es.length : Nat) (xs.getD i .non)))) → rAll K [.ref D] H' Q := fun D H' sm hd =>
      ⟨D, (List.range xs.length).map fun i => belowV (es.length : Nat) (xs.getD i .non), rfl, .inl (.inl (by rw [hd, List.map_map]; rfl)), by rw [all_range]; exact q _ sm⟩
    have step : ∀ (D : Addr) (i : Nat) (y : V) (H1 H2 : Hp) (Q' : VK), i < xs.length → Same H H1 → H2 = H1 ∧ xs[i]? = some y → (∀ H4, Same H1 H4 → Q' (V.bl (belowV (es.length : Nat) (xs.getD i .non))) H4) →
        spBelow [.int (es.length : Nat), y] H2 Q' E0 := by
      rintro D i y H1 H2 Q' hi sm ⟨rfl, hy⟩ hq
      obtain ⟨t, ht⟩ := hx y (List.mem_of_getElem? hy)
      refine ⟨_, y, t, rfl, ht.keep sm, ?_⟩
      have e : xs.getD i .non = y := by rw [List.getD_eq_getElem?_getD, hy]; rfl
      have := hq _ (Same.refl H2)
      rw [e] at this
      exact this
    rcases hS with hS | hS
    · refine Or.inl ⟨_, rfl, a, rfl, ⟨xs, hS⟩, fun D hD => ?_⟩
      refine lcP walk_list (fun i => V.bl (belowV (es.length : Nat) (xs.getD i .non))) lt hD (fun _ sm => sm.seq hS) ?_ ?_
      · intro i y H1 H2 Q' hi sm hy hq
        exact ⟨rfl, _, rfl, _, rfl, step D i y H1 H2 Q' hi sm hy hq⟩
      · intro H' sm hd
        exact fin D H' sm hd
    · refine Or.inr ⟨_, rfl, a, rfl, ⟨xs, hS⟩, fun D hD => ?_⟩
      refine lcP walk_tup (fun i => V.bl (belowV (es.length : Nat) (xs.getD i .non))) lt hD (fun _ sm => seqT sm hS) ?_ ?_
      · intro i y H1 H2 Q' hi sm hy hq
        exact ⟨rfl, _, rfl, _, rfl, step D i y H1 H2 Q' hi sm hy hq⟩
      · intro H' sm hd
        exact fin D H' sm hd
end
end L2.My
end
section
set_option Elab.async false
set_option linter.all false
set_option maxRecDepth 100000
set_option maxHeartbeats 4000000
/-! Entries as data. -/
namespace L2.My
open PySem PySem.Spec PyProof.Rows
def kD : Key → PyData
  | .inl i => .int i
  | .inr x => .str x
def pD (ks : List Key) : PyData := .tuple (ks.map kD)
def entD (e : Ent) : PyData := .tuple [.str e.1, pD e.2]
structure GoodE (e : Ent) : Prop where
  kind : PyData.strOk e.1 = true
  parts : ∀ x, (Sum.inr x : Key) ∈ e.2 → PyData.strOk x = true
theorem eqvAll_map {α : Type} [DecidableEq α] {f : α → PyData} (h : ∀ a b, PyData.eqv (f a) (f b) = decide (a = b)) : ∀ xs ys : List α, PyData.eqvAll (xs.map f) (ys.map f) = decide (xs = ys)
  | [], [] => by simp [PyData.eqvAll]
  | [], y :: ys => by simp [PyData.eqvAll]
  | x :: xs, [] => by simp [PyData.eqvAll]
  | x :: xs, y :: ys => by
    rw [List.map_cons, List.map_cons, PyData.eqvAll, h, eqvAll_map h xs ys]
    by_cases h1 : x = y
    · by_cases h2 : xs = ys
      · simp [h1, h2]
      · simp [h1, h2]
    · simp [h1]
theorem eqv_k (a b : Key) : PyData.eqv (kD a) (kD b) = decide (a = b) := by
  cases a with
  | inl i => cases b with
    | inl j =>
      show PyData.eqv (.int i) (.int j) = _
      rw [PyData.eqv]
      by_cases h : i = j
      · subst h; simp
      · have : ¬ (Sum.inl i : Key) = Sum.inl j := fun z => h (Sum.inl.inj z)
        rw [decide_eq_false this]; simp [h]
    | inr y =>
      show PyData.eqv (.int i) (.str y) = _
      rw [decide_eq_false (fun z => nomatch z)]; simp [PyData.eqv]
  | inr x => cases b with
    | inl j =>
      show PyData.eqv (.str x) (.int j) = _
      rw [decide_eq_false (fun z => nomatch z)]; simp [PyData.eqv]
    | inr y =>
      show PyData.eqv (.str x) (.str y) = _
      rw [PyData.eqv]
      by_cases h : x = y
      · subst h; simp
      · have : ¬ (Sum.inr x : Key) = Sum.inr y := fun z => h (Sum.inr.inj z)
        rw [decide_eq_false this]; exact beq_eq_false_iff_ne.mpr h
theorem eqv_p (a b : List Key) : PyData.eqv (pD a) (pD b) = decide (a = b) := by
  unfold pD
  rw [PyData.eqv]
  exact eqvAll_map eqv_k a b
theorem eqv_s (x y : Str) : PyData.eqv (.str x) (.str y) = decide (x = y) := by
  have := eqv_k (.inr x) (.inr y)
  rw [show PyData.eqv (.str x) (.str y) = PyData.eqv (kD (.inr x)) (kD (.inr y)) from rfl, this]
  exact key_rr x y
theorem eqv_e (a b : Ent) : PyData.eqv (entD a) (entD b) = decide (a = b) := by
  unfold entD
  rw [PyData.eqv, PyData.eqvAll, PyData.eqvAll, PyData.eqvAll, eqv_s, eqv_p]
  by_cases h1 : a.1 = b.1
  · by_cases h2 : a.2 = b.2
    · rw [decide_eq_true h1, decide_eq_true h2, decide_eq_true (Prod.ext h1 h2)]; rfl
    · rw [decide_eq_true h1, decide_eq_false h2, decide_eq_false (fun z => h2 (congrArg Prod.snd z))]; rfl
  · rw [decide_eq_false h1, decide_eq_false (fun z => h1 (congrArg Prod.fst z))]; rfl
theorem can_k : ∀ {ks : List Key}, (∀ x, (Sum.inr x : Key) ∈ ks → PyData.strOk x = true) → PyData.canLayAll0 (ks.map kD) = true
  | [], _ => by simp [PyData.canLayAll0]
  | .inl i :: r, h => by
    have := can_k (ks := r) fun x hx => h x (List.mem_cons_of_mem _ hx)
    show PyData.canLayAll0 (PyData.int i :: r.map kD) = true
    simp [PyData.canLayAll0, PyData.canLay0, this]
  | .inr x :: r, h => by
    have := can_k (ks := r) fun x hx => h x (List.mem_cons_of_mem _ hx)
    show PyData.canLayAll0 (PyData.str x :: r.map kD) = true
    simp [PyData.canLayAll0, PyData.canLay0, this, h x List.mem_cons_self]
theorem dep_k : ∀ ks : List Key, PyData.depthAll (ks.map kD) ≤ 1
  | [] => by simp [PyData.depthAll]
  | .inl i :: r => by
    have := dep_k r
    show PyData.depthAll (PyData.int i :: r.map kD) ≤ 1
    simp only [PyData.depthAll, PyData.depth]
    omega
  | .inr x :: r => by
    have := dep_k r
    show PyData.depthAll (PyData.str x :: r.map kD) ≤ 1
    simp only [PyData.depthAll, PyData.depth]
    omega
theorem dep_p (ks : List Key) : PyData.depth (pD ks) ≤ 2 := by
  have := dep_k ks
  unfold pD
  simp only [PyData.depth]
  omega
theorem dep_e (e : Ent) : PyData.depth (entD e) ≤ 3 := by
  have := dep_p e.2
  unfold entD
  simp only [PyData.depth, PyData.depthAll]
  omega
theorem can_e {e : Ent} (h : GoodE e) : PyData.canLay0 (entD e) = true := by
  have := can_k h.parts
  unfold entD pD
  simp [PyData.canLay0, PyData.canLayAll0, h.kind, this]
theorem can_map {α : Type} {f : α → PyData} : ∀ {xs : List α}, (∀ x ∈ xs, PyData.canLay0 (f x) = true) → PyData.canLayAll0 (xs.map f) = true
  | [], _ => by simp [PyData.canLayAll0]
  | x :: r, h => by
    have := can_map (f := f) (xs := r) fun y hy => h y (List.mem_cons_of_mem _ hy)
    simp [PyData.canLayAll0, this, h x List.mem_cons_self]
theorem dep_map {α : Type} {f : α → PyData} {n : Nat} (h : ∀ x, PyData.depth (f x) ≤ n) : ∀ xs : List α, PyData.depthAll (xs.map f) ≤ n
  | [] => by simp [PyData.depthAll]
  | x :: r => by
    have h1 := dep_map h r
    have h2 := h x
    simp only [List.map_cons, PyData.depthAll]
    omega
theorem shaped_list {α : Type} {f : α → PyData} {n : Nat} (hn : n < 64) (hd : ∀ x, PyData.depth (f x) ≤ n) {xs : List α} (hc : ∀ x ∈ xs, PyData.canLay0 (f x) = true) : SeqAt.shaped (.list (xs.map f)) = true := by
  have h1 := can_map hc
  have h2 := dep_map hd xs
  simp only [SeqAt.shaped, PyData.canLay0, PyData.depth, Bool.and_eq_true, decide_eq_true_eq]
  exact ⟨h1, decide_eq_true (by omega)⟩
theorem shaped_e {e : Ent} (h : GoodE e) : SeqAt.shaped (entD e) = true := by
  have h1 := can_e h
  have h2 := dep_e e
  simp only [SeqAt.shaped, Bool.and_eq_true, decide_eq_true_eq]
  exact ⟨h1, by omega⟩
theorem name_strOk {x : Str} (h : nameV (.str x) = true) : PyData.strOk x = true := by
  have h2 : x.cps.toList.all goodC = true := (Bool.and_eq_true_iff.mp h).2
  rw [List.all_eq_true] at h2
  show x.cps.all (· < 0x110000) = true
  rw [← Array.all_toList, List.all_eq_true]
  intro c hc
  have q := h2 c hc
  have q2 : c ≤ 126 := of_decide_eq_true (Bool.and_eq_true_iff.mp q).2
  exact decide_eq_true (by omega)
theorem Ok1.good {n : Nat} {e : Ent} (h : Ok1 n e) : GoodE e := by
  refine ⟨kinds_ok _ h.kind, ?_⟩
  cases h with
  | name x h =>
    intro y hy
    rw [List.mem_singleton] at hy
    cases hy
    exact name_strOk h
  | num i _ _ => intro y hy; rw [List.mem_singleton] at hy; cases hy
  | fresh i _ => intro y hy; rw [List.mem_singleton] at hy; cases hy
  | row is _ _ => intro y hy; obtain ⟨i, _, e⟩ := List.mem_map.mp hy; cases e
  | parts k is _ _ => intro y hy; obtain ⟨i, _, e⟩ := List.mem_map.mp hy; cases e
section
variable {K : PySem.W.Frag} {H : Hp}
theorem dp_k : ∀ ks : List Key, DpAll K H (ks.map kV) (ks.map kD)
  | [] => .nil
  | .inl i :: r => .cons (.int i) (dp_k r)
  | .inr x :: r => .cons (.str x) (dp_k r)
theorem dp_p {p : Addr} {ks : List Key} (h : H p = some (.tup (ks.map kV))) : Dp K H (.ref p) (pD ks) := .tup (.of h) (dp_k ks)
theorem dp_e {a : Addr} {e : Ent} (h : EntAt H a e) : Dp K H (.ref a) (entD e) := by
  obtain ⟨p, h1, h2⟩ := h
  exact .tup (.of h1) (.cons (.str _) (.cons (dp_p h2) .nil))
theorem dp_ents : ∀ {qs : List Addr} {es : List Ent}, Paired (EntAt H) qs es → DpAll K H (qs.map .ref) (es.map entD)
  | _, _, .nil => .nil
  | _, _, .cons h t => .cons (dp_e h) (dp_ents t)
theorem dp_parts : ∀ {ps : List Addr} {es : List Ent}, Paired (fun (p : Addr) (e : Ent) => H p = some (.tup (e.2.map kV))) ps es → DpAll K H (ps.map .ref) (es.map fun e => pD e.2)
  | _, _, .nil => .nil
  | _, _, .cons h t => .cons (dp_p h) (dp_parts t)
theorem dp_kinds : ∀ es : List Ent, DpAll K H (es.map fun e => V.str e.1) (es.map fun e => PyData.str e.1)
  | [] => .nil
  | e :: r => .cons (.str _) (dp_kinds r)
end
end L2.My
end
section
set_option Elab.async false
set_option linter.all false
set_option maxRecDepth 100000
set_option maxHeartbeats 4000000
/-! == and != of an instance whose class has its own ==. -/
namespace L2.My
open PySem PySem.Spec PyProof.Rows
section
variable {M : Model} {prog : Program} {w : World} {A : Around} {E : Value → Shared → Prop} {s : Shared} {K : PySem.W.Frag} {x C f L : Addr} {ox : Obj} {od : Option Obj} {b tb : Value} {h₀ : Heap} {m : Str → Option Value}
theorem ne_entry {Q : Fin → Shared → Prop} (hu : A.units < cLine) (X : K.In s.heap) (I : PySem.W.InstAt s.heap x ox C od) (hs : PySem.W.findIn K (.ref C) "__eq__" = some (some (.ref f))) (hf : PySem.W.isFn K (.ref f) = true)
    (h : wpAny (model prog w) A (call (.ref f) [.ref x, b]) (fun v s' => ∃ c, v = .bool c ∧ Q (.done (.ret (.bool (!c)))) s') E s) : wpAny (model prog w) A (Builtin.«object.__ne__» ⟨[.ref x, b], []⟩) Q E s := by
  unfold Builtin.«object.__ne__»
  repeat (first
    | with_reducible refine wpAny_cRoomFor hu ?_
    | (refine wpAny_bind (m := callSpecialIfBound? (.ref x) (Str.ofString "__eq__") [b])
        (PySem.W.ifBound_K X I hs hf (wpAny_mono h (fun r s' hr => by
          obtain ⟨c, rfl, hq⟩ := hr
          repeat (first | exact hq | exact wpAny_pure hq | exact wpAny_truthy_bool hq | (refine wpAny_bind (m := truthy (.bool _)) (wpAny_truthy_bool ?_)) | wp_step)) fun _ _ e => e)))
    | wp_step)
theorem ifBound_ne {args : List Value} {Q : Option Value → Shared → Prop} (X : K.In s.heap) (I : PySem.W.InstAt s.heap x ox C od) (hs : PySem.W.findIn K (.ref C) "__ne__" = some (some (.builtin "object.__ne__")))
    (h : wpAny M A (call (.builtin "object.__ne__") (.ref x :: args)) (fun v => Q (some v)) E s) : wpAny M A (callSpecialIfBound? (.ref x) "__ne__" args) Q E s := by
  simp only [callSpecialIfBound?, bindSpecialIfBound?]
  refine wpAny_holding (wpAny_bind (wpAny_bind (wpAny_bind (I.type.here ((PySem.W.looks_findIn X hs).here ?_)))))
  refine wpAny_bind (wpAny_askSetting (wpAny_ite ?_))
  have fin : wpAny M A (call (.builtin "object.__ne__") ([.ref x] ++ args) >>= fun v => pure (some v)) Q E s := wpAny_bind (wpAny_mono h (fun v s' h' => wpAny_pure h') fun _ _ h' => h')
  split
  · exact wpAny_bind (wpAny_of_eq (F.cmp_object.ne.bind _) (wpAny_pure (by exact fin)))
  · exact wpAny_tryCatch (wpAny_bind (wpAny_of_eq (F.cmp_object.ne.bind _) (wpAny_pure (by exact fin))))
theorem ne_K {Q : Value → Shared → Prop} (hu : A.units + 1 < cLine) (X : K.In s.heap) (I : PySem.W.InstAt s.heap x ox C od) (hb : PySem.W.Looks (model prog w) s.heap (typeOf b) tb) (hn : PySem.W.notFirst K C tb = true)
    (hs : PySem.W.findIn K (.ref C) "__eq__" = some (some (.ref f))) (hf : PySem.W.isFn K (.ref f) = true) (hne : PySem.W.findIn K (.ref C) "__ne__" = some (some (.builtin "object.__ne__"))) (hm : PySem.W.mroIn K C (.type "object") = some true)
    (h : wpAny (model prog w) A.in1 (call (.ref f) [.ref x, b]) (fun v s' => ∃ c, v = .bool c ∧ Q (.bool (!c)) s') E s) : wpAny (model prog w) A (richCompare .NotEq (.ref x) b) Q E s := by
  have one : wpAny (model prog w) A (tryCompare (.ref x) "__ne__" b) (fun r s' => ∃ v, r = some v ∧ Q v s') E s := by
    unfold tryCompare
    refine wpAny_bind (ifBound_ne X I hne (wpAny_call (codeAny_call_builtin F.cmp_object.ne.plain F.cmpEntry_ne (PySem.W.check_slot F.cmpKind_ne F.cmpSplit_ne (I.type.andThen (PySem.W.looks_mroIn X hm)) (F.cmpArgs_ne _ _)
      (ne_entry (A := A.in1) hu X I hs hf (wpAny_mono h (fun v s' hv => ?_) fun _ _ e => e))))))
    obtain ⟨c, rfl, hq⟩ := hv
    exact ⟨c, rfl, wpAny_pure ⟨_, rfl, hq⟩⟩
  unfold richCompare
  simp only [oneThing_ref]
  refine wpAny_holding (wpAny_bind (wpAny_cRoomFor (by omega) ?_))
  refine wpAny_bind (I.type.here (wpAny_bind (hb.here ?_)))
  split
  · rename_i q
    have e : PySem.W.subIn K tb (.ref C) = some false := by
      rcases Bool.or_eq_true_iff.mp hn with e | e
      · rw [beq_iff_eq.mp e] at q; simp at q
      · exact beq_iff_eq.mp e
    refine wpAny_bind ((PySem.W.looks_subIn X e).here ?_)
    simp only [Bool.false_eq_true, if_false]
    refine wpAny_bind (wpAny_mono one (fun r s' z => ?_) fun _ _ e => e)
    obtain ⟨v, rfl, hq⟩ := z
    exact wpAny_pure hq
  · refine wpAny_bind (wpAny_pure ?_)
    simp only [Bool.false_eq_true, if_false]
    refine wpAny_bind (wpAny_mono one (fun r s' z => ?_) fun _ _ e => e)
    obtain ⟨v, rfl, hq⟩ := z
    exact wpAny_pure hq
end
/-- the type of a value, as the right side of a comparison -/
def rOwnEq (K : PySem.W.Frag) (C : Addr) (sp : Sp) (neg : Bool) : R2 := fun x y H Q => ∃ a dx fs tb, x = .ref a ∧ H a = some (.ins C dx fs) ∧ TyX K H y tb ∧ PySem.W.notFirst K C tb = true ∧ sp [x, y] H (fun v H' => ∃ c, v = .bl c ∧ Q (.bl (if neg then !c else c)) H') E0
section
variable {X : Cx} {n : Nat} {CX : CXT} {C f : Addr} {fd : FuncData} {ps : List Str} {sp : Sp}
theorem looks_of {pins : List (Addr × Obj)} {σ : St} {H : Hp} {s : Shared} {y : V} {u tb : Value} (I : Inv X pins σ H s) (ry : RelV y u) (t : TyX X.K H y tb) : PySem.W.Looks (model X.prog X.w) s.heap (typeOf u) tb := by
  obtain ⟨P, Z, p, hx⟩ := kit_of I ry t
  exact Z.ty _ _ I.kIn p
theorem run_own {A : Around} {pins : List (Addr × Obj)} {σ : St} {H : Hp} {s : Shared} {x y : V} {u v : Value} {R0 : VK} {R : Value → Shared → Prop} (F : FnOk X.prog X.w X.K X.mg X.base CX n f fd ps sp) (hb : Binds X.K fd ps []) (hx : Passes CX X E0) (hr : Room n A) (fr : A.frames = X.A.frames)
    (I : Inv X pins σ H s) (rx : RelV x u) (ry : RelV y v) (hsp : sp [x, y] H R0 E0) (hR : ∀ z w H' s', Inv X pins σ H' s' → RelV z w → R0 z H' → R w s') :
    wpAny (model X.prog X.w) A (call (.ref f) [u, v]) R X.xe s := by
  have e0 : Env0 X.prog X.w X.K X.mg X.base A X.stack s H := by
    have e := I.env0
    exact ⟨by rw [fr]; exact e.frames, e.mod, e.bs, e.bsz, e.funs, e.frf, e.hok, e.bare⟩
  have hl := F.len _ _ _ _ hsp
  have r2 : Vals [x, y] [u, v] := .cons rx (.cons ry .nil)
  refine wpAny_call (codeAny_mono (F.run A X.stack s H ⟨[u, v], []⟩ [u, v] [x, y] _ E0 hr e0 (by
    have := hb s [u, v] I.kIn (by simpa using hl)
    simpa using this) r2 hsp) fun r s' hq => ?_)
  cases r with
  | error e => exact hx pins σ H s e s' I hq
  | ok fl =>
    cases fl with
    | ret w =>
      obtain ⟨z, H', I', rz, q⟩ := I.after hq
      exact hR z w H' s' I' rz q
    | next => exact False.elim hq
    | brk => exact False.elim hq
    | cont => exact False.elim hq
theorem op_eqO (F : FnOk X.prog X.w X.K X.mg X.base CX n f fd ps sp) (hr : Room n X.A) (hs : PySem.W.findIn X.K (.ref C) "__eq__" = some (some (.ref f))) (hf : PySem.W.isFn X.K (.ref f) = true) (hb : Binds X.K fd ps []) (hx : Passes CX X E0) :
    OpR X (compareOp .Eq) (rOwnEq X.K C sp false) := by
  intro pins s σ H x y u v Q I rx ry h
  obtain ⟨a, dx, fs, tb, rfl, ha, ty, hn, hsp⟩ := h
  cases rx
  obtain ⟨mA, J, _⟩ := ins_get I.hok ha
  obtain ⟨od, J, _⟩ := J.look
  obtain ⟨m, hF⟩ := I.fr
  refine PySem.W.cmp_K (op := .Eq) (tb := tb) hr.units0 hF I.ok.mod.kin J (looks_of I ry ty) hn hs hf ?_
  refine run_own (x := .ref a) F hb hx hr rfl I rfl ry hsp fun z w H' s' I' rz q => ?_
  obtain ⟨c, rfl, q⟩ := q
  cases rz
  exact ⟨.bl c, H', I', rfl, q⟩
theorem op_neO (F : FnOk X.prog X.w X.K X.mg X.base CX n f fd ps sp) (hr : Room (n + 1) X.A) (hs : PySem.W.findIn X.K (.ref C) "__eq__" = some (some (.ref f))) (hf : PySem.W.isFn X.K (.ref f) = true) (hb : Binds X.K fd ps []) (hx : Passes CX X E0)
    (hne : PySem.W.findIn X.K (.ref C) "__ne__" = some (some (.builtin "object.__ne__"))) (hm : PySem.W.mroIn X.K C (.type "object") = some true) : OpR X (compareOp .NotEq) (rOwnEq X.K C sp true) := by
  intro pins s σ H x y u v Q I rx ry h
  obtain ⟨a, dx, fs, tb, rfl, ha, ty, hn, hsp⟩ := h
  cases rx
  obtain ⟨mA, J, _⟩ := ins_get I.hok ha
  obtain ⟨od, J, _⟩ := J.look
  refine ne_K (by have := hr.un; omega) I.kIn J (looks_of I ry ty) hn hs hf hne hm ?_
  refine run_own (x := .ref a) F hb hx hr.in1 rfl I rfl ry hsp fun z w H' s' I' rz q => ?_
  obtain ⟨c, rfl, q⟩ := q
  cases rz
  exact ⟨c, rfl, .bl (!c), H', I', rfl, q⟩
end
end L2.My
end
section
set_option Elab.async false
set_option linter.all false
set_option maxRecDepth 100000
set_option maxHeartbeats 4000000
namespace L2.My
open PySem PySem.Spec PyProof.Rows
/-- what isinstance asks of the class -/
structure BkI (K : PySem.W.Frag) (C : Addr) : Prop where
  ha : PySem.W.findIn K (.ref C) "__class__" = some (some (.builtin "object.__class__"))
  hn : PySem.W.specialIn K (.builtin "object.__class__") "__get__" = some (some (.builtin "getset_descriptor.__get__"))
  htk : PySem.W.takesIn K (.builtin "object.__class__") = some true
  hm : PySem.W.mroIn K C (.type "object") = some true
  self : PySem.W.kitOne K (.ref C) (.ref C) = some true
def spEqB (P : Program) (w : World) (K : PySem.W.Frag) (C : Addr) : Sp := fun vs H Q _ => ∃ B es y, vs = [.ref B.b, y] ∧ BookAt P w H C B es ∧ ((∃ B2 es2, y = .ref B2.b ∧ BookAt P w H C B2 es2 ∧ Q (.bl (decide (es = es2))) H) ∨ ∃ t, TyX K H y t ∧ PySem.W.kitOne K t (.ref C) = some false ∧ Q (.bl false) H)
section
variable {P : Program} {w : World} {K : PySem.W.Frag} {mg : Str → Option Value} {base : Heap} {C C0 C1 C2 C3 : Addr}
theorem scEq : FnScope ["self", "other"] ["self", "other"] (defScope (mth 1)) := ⟨rfl, rfl, rfl, by decide +kernel, rfl, by decide +kernel, by decide +kernel⟩
theorem ok_eqB {f : Addr} {fd : FuncData} {k : Nat} (F : Fun K "__eq__" "Book.__eq__" (mth 1) f fd) (T : PlTxt mg) (c : BkC K C) (ci : BkI K C) (gB : mg "Book" = some (.ref C)) : FnOk P w K mg base CX0 (k + 1) f fd ["self", "other"] (spEqB P w K C) := by
  refine F.ok scEq (fun vs H Q E h => ?_) (fun cdv A outer s H vs Q E hr h => ?_)
  · obtain ⟨B, es, y, rfl, _⟩ := h
    rfl
  · obtain ⟨B, es, y, rfl, hB, q⟩ := h
    refine ⟨_, pss_one (ps_ret (pe_and (pe_callB call_isi (by rfl) T.isi (by decide +kernel) (pa_cons (pv 1) (pa_cons (pe_glob (v := .ref C) (by rfl) gB rfl) pa_nil)))
        (pe_and (pe_cmpR (op_eqD hr.units) (pe_fld (pv 0) rfl) (pe_fld (pv 1) rfl) (nomark _)) (pe_one (pe_cmpR (op_eqD hr.units) (pe_fld (pv 0) rfl) (pe_fld (pv 1) rfl) (nomark _)))))), ?_⟩
    rcases q with ⟨B2, es2, rfl, hB2, q⟩ | ⟨t, ht, hk, q⟩
    · refine ⟨_, rfl, _, _, _, _, true, rfl, .own C, .base (.ins hB2.ins c.cls ci.ha ci.hn ci.htk ci.hm), ci.self, _, rfl, iteT ?_⟩
      refine ⟨_, rfl, _, _, _, _, _, rfl, hB.ins, c.cls, c.na _ (by simp), rfl, _, rfl, _, _, _, _, _, rfl, hB2.ins, c.cls, c.na _ (by simp), rfl, ?_⟩
      have sk : ∀ {B : BP} {es : List Ent}, BookAt P w H C B es → Dp K H (.ref B.lk) (.list (es.map fun e => .str e.1)) ∧ SeqAt.shaped (.list (es.map fun e => PyData.str e.1)) = true := fun {B es} hB =>
        ⟨.lst (.of hB.kinds) (dp_kinds _), shaped_list (n := 1) (by decide) (fun x => by simp [PyData.depth]) fun e he => by
          obtain ⟨i, hi⟩ := List.mem_iff_getElem?.mp he
          simp [PyData.canLay0, (hB.wf.ok i e hi).good.kind]⟩
      have sp : ∀ {B : BP} {es : List Ent}, BookAt P w H C B es → Dp K H (.ref B.lp) (.list (es.map fun e => pD e.2)) ∧ SeqAt.shaped (.list (es.map fun e => pD e.2)) = true := fun {B es} hB => by
        obtain ⟨ps, h1, h2⟩ := hB.parts
        refine ⟨.lst (.of h1) (dp_parts h2), shaped_list (n := 2) (by decide) (fun x => dep_p _) fun e he => ?_⟩
        obtain ⟨i, hi⟩ := List.mem_iff_getElem?.mp he
        have := can_k (hB.wf.ok i e hi).good.parts
        unfold pD
        simp [PyData.canLay0, this]
      obtain ⟨k1, k2⟩ := sk hB
      obtain ⟨k3, k4⟩ := sk hB2
      refine ⟨_, _, k1, k3, k2, k4, _, rfl, ?_⟩
      obtain ⟨p1, p2⟩ := sp hB
      obtain ⟨p3, p4⟩ := sp hB2
      have ek : PyData.eqv (.list (es.map fun e => PyData.str e.1)) (.list (es2.map fun e => PyData.str e.1)) = decide (es.map (·.1) = es2.map (·.1)) := by
        rw [PyData.eqv, show (es.map fun e => PyData.str e.1) = (es.map (·.1)).map PyData.str by rw [List.map_map]; rfl, show (es2.map fun e => PyData.str e.1) = (es2.map (·.1)).map PyData.str by rw [List.map_map]; rfl]
        exact eqvAll_map eqv_s _ _
      have ep : PyData.eqv (.list (es.map fun e => pD e.2)) (.list (es2.map fun e => pD e.2)) = decide (es.map (·.2) = es2.map (·.2)) := by
        rw [PyData.eqv, show (es.map fun e => pD e.2) = (es.map (·.2)).map pD by rw [List.map_map]; rfl, show (es2.map fun e => pD e.2) = (es2.map (·.2)).map pD by rw [List.map_map]; rfl]
        exact eqvAll_map eqv_p _ _
      have both : es = es2 ↔ es.map (·.1) = es2.map (·.1) ∧ es.map (·.2) = es2.map (·.2) := by
        constructor
        · rintro rfl
          exact ⟨rfl, rfl⟩
        · rintro ⟨h1, h2⟩
          have z : ∀ l : List Ent, l = (l.map (·.1)).zip (l.map (·.2)) := fun l => by
            induction l with
            | nil => rfl
            | cons e r ih => rw [List.map_cons, List.map_cons, List.zip_cons_cons, ← ih]
          rw [z es, z es2, h1, h2]
      rw [ek]
      by_cases h1 : es.map (·.1) = es2.map (·.1)
      · rw [decide_eq_true h1]
        refine iteT ?_
        refine ⟨_, rfl, _, _, _, _, _, rfl, hB.ins, c.cls, c.na _ (by simp), rfl, _, rfl, _, _, _, _, _, rfl, hB2.ins, c.cls, c.na _ (by simp), rfl, ?_⟩
        refine ⟨_, _, p1, p3, p2, p4, ?_⟩
        rw [ep]
        by_cases h2 : es.map (·.2) = es2.map (·.2)
        · rw [decide_eq_true (both.mpr ⟨h1, h2⟩)] at q
          rw [decide_eq_true h2]
          exact q
        · rw [decide_eq_false (fun z => h2 (both.mp z).2)] at q
          rw [decide_eq_false h2]
          exact q
      · rw [decide_eq_false (fun z => h1 (both.mp z).1)] at q
        rw [decide_eq_false h1]
        exact iteF q
    · exact ⟨_, rfl, _, _, _, _, false, rfl, .own C, ht, hk, _, rfl, iteF q⟩
end
end L2.My
end
section
set_option Elab.async false
set_option linter.all false
set_option maxRecDepth 100000
set_option maxHeartbeats 4000000
namespace L2.My
open PySem PySem.Spec PyProof.Rows
/-! ### _fits -/
def putK9 : List Str := ["name", "number", "row", "made", "lock", "box", "chest", "mark", "print"]
def one1 (f : V → Bool) : List V → Bool
  | [x] => f x
  | _ => false
theorem one1_ne {f : V → Bool} {xs : List V} (h : ¬ xs.length = 1) : one1 f xs = false := by
  match xs, h with
  | [], _ => rfl
  | [x], h => exact absurd rfl h
  | x :: y :: r, _ => rfl
def fitsT (n : Nat) (kd : Str) (xs : List V) : Bool :=
  if kd = "name" then one1 nameV xs
  else if kd = "number" then one1 (belowV 1000000000000) xs
  else (if kd = "row" then decide (xs.length ≤ 400) else decide ((kd, xs.length) ∈ sizesK)) && xs.all (belowV (n : Nat))
/-- parts that may be tried: things, not too many, no text too long -/
structure PtOk (H : Hp) (xs : List V) : Prop where
  len : xs.length ≤ 1000
  ty : ∀ x ∈ xs, ∃ t, ThT H x t
  str : ∀ x ∈ xs, ∀ z, x = .str z → z.length ≤ 1000 ∧ z.cps.toList.all goodC = true
def fitsV (H : Hp) (n : Nat) (kd : Str) (v : V) (c : Bool) : Prop := (∃ a xs, v = .ref a ∧ H a = some (.tup xs) ∧ PtOk H xs ∧ c = fitsT n kd xs) ∨ (∃ t, ThT H v t ∧ t ≠ "tuple" ∧ c = false)
structure ConC (K : PySem.W.Frag) (w : World) (mg : Str → Option Value) where
  a : Addr
  g : mg "COUNTS" = some (.ref a)
  at_ : ∀ p ∈ sizesK, KDct K w a p.1 (.int (p.2 : Nat))
  mi : ∃ t, mg "MOST_ITEMS" = some (.int 400 t)
  nb : ∃ t, mg "NUMBER_BOUND" = some (.int 1000000000000 t)
def spFits (P : Program) (w : World) (C : Addr) : Sp := fun vs H Q _ => ∃ B n es kd v c, vs = [.ref B.b, .str kd, v] ∧ BookN P w H C B n es ∧ kd ∈ putK9 ∧ fitsV H es.length kd v c ∧ ∀ H', Same H H' → Q (.bl c) H'
section
variable {P : Program} {w : World} {K : PySem.W.Frag} {mg : Str → Option Value} {base : Heap} {C C0 C1 C2 C3 : Addr}
theorem scFits : FnScope ["self", "kind", "parts", "right"] ["self", "kind", "parts"] (defScope (mth 14)) := ⟨rfl, rfl, rfl, by decide +kernel, rfl, by decide +kernel, by decide +kernel⟩
theorem putK9_mem {kd : Str} (h : kd ∈ putK9) : kd = "name" ∨ kd = "number" ∨ kd = "row" ∨ (kd ≠ "name" ∧ kd ≠ "number" ∧ kd ≠ "row" ∧ ∃ m : Nat, (kd, m) ∈ sizesK ∧ ∀ j, (kd, j) ∈ sizesK → j = m) := by
  have key : ∀ x ∈ putK9, x = "name" ∨ x = "number" ∨ x = "row" ∨ (x ≠ "name" ∧ x ≠ "number" ∧ x ≠ "row" ∧ ∃ p ∈ sizesK, p.1 = x ∧ ∀ q ∈ sizesK, q.1 = x → q.2 = p.2) := by decide +kernel
  rcases key kd h with h | h | h | ⟨h1, h2, h3, p, hp, rfl, hu⟩
  · exact .inl h
  · exact .inr (.inl h)
  · exact .inr (.inr (.inl h))
  · exact .inr (.inr (.inr ⟨h1, h2, h3, p.2, hp, fun j hj => hu _ hj rfl⟩))
theorem ok_fits {f fB fN fA : Addr} {fd fdB fdN fdA : FuncData} {k : Nat} (F : Fun K "_fits" "Book._fits" (mth 14) f fd) (T : PlTxt mg) (c : BkC K C) (CC : ConC K w mg)
    (GB : FnOk P w K mg base CX0 (k + 1) fB fdB ["bound", "thing"] spBelow) (kB : PySem.W.keepIn K (.ref fB) = true) (gB : mg "is_below" = some (.ref fB)) (bB : Binds K fdB ["bound", "thing"] [])
    (GN : FnOk P w K mg base CX0 (k + 2) fN fdN ["thing"] spNameT) (kN : PySem.W.keepIn K (.ref fN) = true) (gN : mg "is_name_text" = some (.ref fN)) (bN : Binds K fdN ["thing"] [])
    (GA : FnOk P w K mg base CX0 (k + 2) fA fdA ["self", "things"] (spAreT P w K C)) (mA : Meth K C "_are_terms" fA) (bA : Binds K fdA ["self", "things"] []) : FnOk P w K mg base CX0 (k + 3) f fd ["self", "kind", "parts"] (spFits P w C) := by
  obtain ⟨t1, hmi⟩ := CC.mi
  obtain ⟨t2, hnb⟩ := CC.nb
  refine F.ok scFits (fun vs H Q E h => ?_) (fun cdv A outer s H vs Q E hr h => ?_)
  · obtain ⟨B, n, es, kd, v, b, rfl, _⟩ := h
    rfl
  · obtain ⟨B, n, es, kd, v, b, rfl, hB, hk, hv, q⟩ := h
    refine ⟨_, pss_cons (ps_if (pt_not (pt_val (pe_callB call_isTh (by rfl) T.isi (by decide +kernel) (pa_cons (pv 2) (pa_cons (pe_bltn (v := .ty "tuple") (u := .type "tuple") (by rfl) T.tuple_ (by decide +kernel) rfl) pa_nil))))) (pss_one (ps_ret pe_bl)) pss_nil)
      (pss_cons (ps_if (pt_cmpR op_eq (pv 1) pe_str (nomark _)) (pss_one (ps_ret (pe_and (pe_cmpR op_eq (pe_callB call_len_seq (by rfl) T.len_ PySem.boot_len (pa_cons (pv 2) pa_nil)) pe_int (nomark _))
          (pe_one (pe_call GN (hr.mono (by omega)) (by rfl) gN kN bN .nil pass0 (pa_cons (pe_ix ix_tup (pv 2) pe_int (fun _ _ => rfl)) pa_nil)))))) pss_nil)
      (pss_cons (ps_if (pt_cmpR op_eq (pv 1) pe_str (nomark _)) (pss_one (ps_ret (pe_and (pe_cmpR op_eq (pe_callB call_len_seq (by rfl) T.len_ PySem.boot_len (pa_cons (pv 2) pa_nil)) pe_int (nomark _))
          (pe_one (pe_call GB (hr.mono (by omega)) (by rfl) gB kB bB .nil pass0 (pa_cons (pe_glob (v := .int 1000000000000) (by rfl) hnb ⟨t2, rfl⟩) (pa_cons (pe_ix ix_tup (pv 2) pe_int (fun _ _ => rfl)) pa_nil))))))) pss_nil)
      (pss_cons (ps_set (i := 3) scFits.nd rfl (Or.inl rfl) (pe_ifExp (pt_cmpR op_eq (pv 1) pe_str (nomark _)) (pe_cmpR op_le (pe_callB call_len_seq (by rfl) T.len_ PySem.boot_len (pa_cons (pv 2) pa_nil)) (pe_glob (v := .int 400) (by rfl) hmi ⟨t1, rfl⟩) (nomark _))
          (pe_cmpR op_eq (pe_callB call_len_seq (by rfl) T.len_ PySem.boot_len (pa_cons (pv 2) pa_nil)) (pe_ix ix_kdict (pe_glob (v := .ref CC.a) (by rfl) CC.g rfl) (pv 1) (fun _ _ => rfl)) (nomark _))))
      (pss_one (ps_ret (pe_and (pv 3) (pe_one (pe_meth (pv 0) c.cls mA GA (hr.mono (by omega)) bA .nil pass0 (pa_cons (pv 2) pa_nil))))))))), ?_⟩
    rcases hv with ⟨a, xs, rfl, ha, hp, rfl⟩ | ⟨t, ht, hne, rfl⟩
    · refine ⟨_, rfl, _, "tuple", "tuple", rfl, .tup ha, by decide, _, rfl, ?_⟩
      refine iteF ?_
      have lt : xs.length ≤ 100000 := Nat.le_trans hp.len (by decide)
      have one : xs.length = 1 → ∃ x t, xs = [x] ∧ ThT H x t ∧ ∀ z, x = .str z → z.length ≤ 1000 := fun h1 => by
        match xs, h1 with
        | [x], _ =>
          obtain ⟨t, ht⟩ := hp.ty x (by simp)
          exact ⟨x, t, rfl, ht, fun z e => (hp.str x (by simp) z e).1⟩
      have lenI : ∀ j : Nat, decide (V.int (xs.length : Nat) = V.int (j : Nat)) = decide (xs.length = j) := fun j => by
        rw [dec_int]
        by_cases hj : xs.length = j
        · rw [decide_eq_true hj, hj]; simp
        · rw [decide_eq_false hj]; simp; omega
      have fin : ∀ H', Same H H' → Q (.bl (fitsT es.length kd xs)) H' := q
      have sd : ∀ z : Str, decide (V.str kd = V.str z) = decide (kd = z) := fun z => by
        by_cases hz : kd = z
        · rw [decide_eq_true hz, hz]; simp
        · rw [decide_eq_false hz]; simp [hz]
      have sq : SqT K H a xs := .of ha
      refine ⟨_, rfl, rfl, _, rfl, ?_⟩
      rw [sd]
      by_cases e1 : kd = "name"
      · rw [decide_eq_true e1]
        refine iteT ⟨_, rfl, _, _, rfl, .inr sq, rfl, ?_⟩
        refine ⟨_, rfl, ?_⟩
        rw [show (V.int 1) = V.int ((1 : Nat) : Int) from rfl, lenI]
        have ef : fitsT es.length kd xs = one1 nameV xs := by unfold fitsT; rw [if_pos e1]
        rw [ef] at fin
        by_cases h1 : xs.length = 1
        · rw [decide_eq_true h1]
          obtain ⟨x, t, rfl, hx, hz⟩ := one h1
          refine iteT ⟨_, rfl, a, _, _, x, rfl, rfl, sq, rfl, ?_⟩
          exact ⟨x, t, rfl, hx, fun z e => Nat.le_trans (hz z e) (by decide), fun H' sm => fin H' sm⟩
        · rw [decide_eq_false h1]
          rw [one1_ne h1] at fin
          exact iteF (fin _ (Same.refl H))
      rw [decide_eq_false e1]
      refine iteF ?_
      refine ⟨_, rfl, rfl, _, rfl, ?_⟩
      rw [sd]
      by_cases e2 : kd = "number"
      · rw [decide_eq_true e2]
        refine iteT ⟨_, rfl, _, _, rfl, .inr sq, rfl, ?_⟩
        refine ⟨_, rfl, ?_⟩
        rw [show (V.int 1) = V.int ((1 : Nat) : Int) from rfl, lenI]
        have ef : fitsT es.length kd xs = one1 (belowV 1000000000000) xs := by unfold fitsT; rw [if_neg e1, if_pos e2]
        rw [ef] at fin
        by_cases h1 : xs.length = 1
        · rw [decide_eq_true h1]
          obtain ⟨x, t, rfl, hx, hz⟩ := one h1
          refine iteT ⟨_, rfl, a, _, _, x, rfl, rfl, sq, rfl, ?_⟩
          exact ⟨_, x, t, rfl, hx, fin _ (Same.refl H)⟩
        · rw [decide_eq_false h1]
          rw [one1_ne h1] at fin
          exact iteF (fin _ (Same.refl H))
      rw [decide_eq_false e2]
      refine iteF ?_
      have ef : fitsT es.length kd xs = ((if kd = "row" then decide (xs.length ≤ 400) else decide ((kd, xs.length) ∈ sizesK)) && xs.all (belowV (es.length : Nat))) := by unfold fitsT; rw [if_neg e1, if_neg e2]
      rw [ef] at fin
      -- the last line
      have last : ∀ r : Bool, r = (if kd = "row" then decide (xs.length ≤ 400) else decide ((kd, xs.length) ∈ sizesK)) →
          tAndV (tVar 3) (tMeth C "_are_terms" (spAreT P w K C) [] E0 (tVar 0) (tCons (tVar 2) tNil)) [some (.ref B.b), some (.str kd), some (.ref a), some (.bl r)] H Q := by
        intro r er
        refine ⟨_, rfl, r, rfl, ?_⟩
        rw [← er] at fin
        cases r with
        | true => exact iteT ⟨_, rfl, B.b, B.dx, _, rfl, hB.ins, rfl, _, rfl, B, n, es, a, xs, rfl, hB, .inr sq, lt, hp.ty, fin⟩
        | false => exact iteF (fin _ (Same.refl H))
      refine ⟨_, rfl, rfl, _, rfl, ?_⟩
      rw [sd]
      by_cases e3 : kd = "row"
      · rw [decide_eq_true e3]
        refine iteT ⟨_, rfl, _, _, rfl, .inr sq, ?_⟩
        refine ⟨_, _, rfl, rfl, ?_⟩
        have e4 : decide ((xs.length : Int) ≤ 400) = decide (xs.length ≤ 400) := by
          by_cases h : xs.length ≤ 400
          · rw [decide_eq_true h, decide_eq_true (by omega)]
          · rw [decide_eq_false h, decide_eq_false (by omega)]
        exact last (decide ((xs.length : Int) ≤ 400)) (by rw [if_pos e3, e4])
      · rw [decide_eq_false e3]
        rcases putK9_mem hk with h | h | h | ⟨_, _, _, m, hm, hu⟩
        · exact absurd h e1
        · exact absurd h e2
        · exact absurd h e3
        refine iteF ⟨_, rfl, _, _, rfl, .inr sq, ?_⟩
        refine ⟨_, rfl, CC.a, kd, _, rfl, rfl, CC.at_ _ hm, rfl, ?_⟩
        refine last (decide (V.int (xs.length : Nat) = V.int (m : Nat))) ?_
        rw [lenI, if_neg e3]
        by_cases h : xs.length = m
        · rw [decide_eq_true h, h, decide_eq_true hm]
        · rw [decide_eq_false h, decide_eq_false (fun z => h (hu _ z))]
    · refine ⟨_, rfl, _, "tuple", t, rfl, ht, by decide, _, rfl, ?_⟩
      have e : instT t "tuple" = false := by
        cases ht <;> first | rfl | exact absurd rfl hne
      rw [e]
      exact iteT (q _ (Same.refl H))
end
end L2.My
end
section
set_option Elab.async false
set_option linter.all false
set_option maxRecDepth 100000
set_option maxHeartbeats 4000000
namespace L2.My
open PySem PySem.Spec PyProof.Rows
def spPutNew (P : Program) (w : World) (C : Addr) : Sp := fun vs H Q _ => ∃ B n es kd p, ∃ ks : List Key, vs = [.ref B.b, .str kd, .ref p] ∧ BookN P w H C B n es ∧ H p = some (.tup (ks.map kV)) ∧ Ok1 es.length (kd, ks) ∧ (kd, ks) ∉ es ∧
  (∀ i : Int, kd = "fresh" → ks = [.inl i] → 0 ≤ i ∧ i < n) ∧ es.length < 30000 ∧ ∀ H', BL B.foot H H' → BookN P w H' C B n (es ++ [(kd, ks)]) → Q (.int (es.length : Nat)) H'
theorem paired_snoc {α β : Type} {G : α → β → Prop} {xs : List α} {ys : List β} {x : α} {y : β} (h : Paired G xs ys) (g : G x y) : Paired G (xs ++ [x]) (ys ++ [y]) := Paired.snoc h g
theorem rMax0 {K : PySem.W.Frag} {H : Hp} {D : Addr} {ns : List Int} {Q : VK} (hD : SqL K H D (ns.map V.int)) (hp : ∀ y ∈ ns, 0 ≤ y) (h : ∀ m, IsMax0 ns m → Q (.int m) H) : rMaxD K [.ref D] [.int 0] H Q :=
  ⟨D, ns, 0, rfl, rfl, hD, fun h0 => h 0 ⟨.inl rfl, Int.le_refl _, fun y hy => by rw [h0] at hy; exact nomatch hy⟩, fun m hm hy => h m ⟨.inr hm, hp m hm, hy⟩⟩
theorem range_getD {α β : Type} (xs : List α) (d : α) (f : α → β) : (List.range xs.length).map (fun i => f (xs.getD i d)) = xs.map f := by
  apply List.ext_getElem
  · rw [List.length_map, List.length_map, List.length_range]
  · intro i h1 h2
    rw [List.getElem_map, List.getElem_map, List.getElem_range, List.getD_eq_getElem?_getD, List.getElem?_eq_getElem (by rw [List.length_map] at h2; exact h2)]
    rfl
section
variable {P : Program} {w : World} {K : PySem.W.Frag} {mg : Str → Option Value} {base : Heap} {C C0 C1 C2 C3 : Addr}
theorem scPutNew : FnScope ["self", "kind", "parts", "number", "part"] ["self", "kind", "parts"] (defScope (mth 15)) := ⟨rfl, rfl, rfl, by decide +kernel, rfl, by decide +kernel, by decide +kernel⟩
theorem ok_putNew {f fS fI : Addr} {fd fdS fdI : FuncData} {k : Nat} (F : Fun K "_put_new" "Book._put_new" (mth 15) f fd) (T : PlTxt mg) (c : BkC K C)
    (GS : FnOk P w K mg base CX0 (k + 1) fS fdS ["self"] (spSize C)) (mS : Meth K C "size" fS) (bS : Binds K fdS ["self"] [])
    (GI : FnOk P w K mg base CX0 (k + 1) fI fdI ["self", "term"] (spInner C)) (mI : Meth K C "_inner" fI) (bI : Binds K fdI ["self", "term"] []) : FnOk P w K mg base CX0 (k + 2) f fd ["self", "kind", "parts"] (spPutNew P w C) := by
  refine F.ok scPutNew (fun vs H Q E h => ?_) (fun cdv A outer s H vs Q E hr h => ?_)
  · obtain ⟨B, n, es, kd, p, ks, rfl, _⟩ := h
    rfl
  · obtain ⟨B, n, es, kd, p, ks, rfl, hB, hp, ok1, hnew, hfr, hlen, q⟩ := h
    refine ⟨_, pss_cons (ps_set (i := 3) scPutNew.nd rfl (Or.inl rfl) (pe_meth0 (pv 0) c.cls mS GS hr bS .nil pass0))
      (pss_cons (ps_expr (pe_bm PySem.F.plainAttrs_list PySem.F.slot_list_append PySem.F.type_list_append mt_append (pe_fld (pv 0) rfl) (pa_cons (pv 1) pa_nil)))
      (pss_cons (ps_expr (pe_bm PySem.F.plainAttrs_list PySem.F.slot_list_append PySem.F.type_list_append mt_append (pe_fld (pv 0) rfl) (pa_cons (pv 2) pa_nil)))
      (pss_cons (ps_expr (pe_bm PySem.F.plainAttrs_list PySem.F.slot_list_append PySem.F.type_list_append mt_append (pe_fld (pv 0) rfl) (pa_cons (pe_op op_add pe_int
          (pe_callBK (cr_maxD rfl) (by rfl) T.max_ (by decide +kernel) (pa_cons (pe_lc (te := tOp (rIxL K) (tFld K (tVar 0) "_depths") (tVar 4)) (own := [("part", 4)]) (g := gName 4) rfl scPutNew.nd (pi_tup (pe_meth (pv 0) c.cls mI GI hr bI .nil pass0 (pa_cons (pv 3) pa_nil)))
            (blkOk_by (N := ["self", "kind", "parts", "number", "part"]) (sc := defScope (mth 15)) (by decide +kernel)) (fun _ _ _ _ _ => pg_name (i := 4) scPutNew.nd rfl (Or.inl rfl)) (fun _ _ _ _ _ => pts_nil)
            (fun _ _ _ _ _ => pe_ix ix_list (pe_fld (pv 0) rfl) (pv 4) (fun _ _ => rfl))) pa_nil) (pk_cons pe_int pk_nil))) pa_nil)))
      (pss_cons (ps_nput (u2 hr) (pe_fld (pv 0) rfl) (pe_tup (pa_cons (pv 1) (pa_cons (pv 2) pa_nil))) (pv 3) rfl)
      (pss_one (ps_ret (pv 3))))))), ?_⟩
    refine ⟨_, rfl, B.b, B.dx, _, rfl, hB.ins, rfl, B, n, es, rfl, hB.kp, ?_⟩
    have hB0 := hB
    obtain ⟨a1, a2, ⟨ps, a3, a3'⟩, ⟨ds, a4, a4'⟩, ⟨kvs, ⟨a5, a6⟩, a5'⟩, ⟨n1, n2, n3⟩, a8, a9⟩ := hB
    have big : (30001 : Nat) ≤ sizeLine := by decide
    have ps_len := Paired.length a3'
    refine ⟨_, rfl, _, _, _, _, _, rfl, a1, c.cls, c.na _ (by simp), rfl, .inl ⟨rfl, _, .of a2⟩, _, rfl, B.lk, _, _, rfl, rfl, a2, by rw [List.length_map]; omega, ?_⟩
    have e1 : (es.map fun e => V.str e.1) ++ [.str kd] = (es ++ [(kd, ks)]).map fun e => V.str e.1 := by rw [List.map_append]; rfl
    rw [e1]
    -- after the kinds
    have i1 : B.b ≠ B.lk := ne_of a1 a2 (fun z => nomatch z)
    have i2 : B.b ≠ B.lp := ne_of a1 a3 (fun z => nomatch z)
    have i3 : B.b ≠ B.ld := ne_of a1 a4 (fun z => nomatch z)
    have i4 : B.b ≠ B.dn := ne_of a1 a5 (fun z => nomatch z)
    have i5 : B.lk ≠ B.dn := ne_of a2 a5 (fun z => nomatch z)
    have i6 : B.lp ≠ B.dn := ne_of a3 a5 (fun z => nomatch z)
    have i7 : B.ld ≠ B.dn := ne_of a4 a5 (fun z => nomatch z)
    generalize hH1 : upd H B.lk (.lst ((es ++ [(kd, ks)]).map fun e => V.str e.1)) = H1
    have k1 : ∀ x o, x ≠ B.lk → H x = some o → H1 x = some o := fun x o hx e => by rw [← hH1, upd_ne hx]; exact e
    have kk1 : H1 B.lk = some (.lst ((es ++ [(kd, ks)]).map fun e => V.str e.1)) := by rw [← hH1, upd_same]
    have b1 := k1 _ _ i1 a1
    have p1 := k1 _ _ n1.symm a3
    have d1 := k1 _ _ n2.symm a4
    refine ⟨_, rfl, _, _, _, _, _, rfl, b1, c.cls, c.na _ (by simp), rfl, .inl ⟨rfl, _, .of p1⟩, _, rfl, B.lp, _, _, rfl, rfl, p1, by rw [List.length_map]; omega, ?_⟩
    have e2 : (ps.map V.ref) ++ [.ref p] = (ps ++ [p]).map V.ref := by rw [List.map_append]; rfl
    rw [e2]
    generalize hH2 : upd H1 B.lp (.lst ((ps ++ [p]).map V.ref)) = H2
    have k2 : ∀ x o, x ≠ B.lp → H1 x = some o → H2 x = some o := fun x o hx e => by rw [← hH2, upd_ne hx]; exact e
    have pp2 : H2 B.lp = some (.lst ((ps ++ [p]).map V.ref)) := by rw [← hH2, upd_same]
    have kk2 := k2 _ _ n1 kk1
    have b2 := k2 _ _ i2 b1
    have d2 := k2 _ _ n3.symm d1
    have t2 : ∀ b xs, H b = some (.tup xs) → H2 b = some (.tup xs) := fun b xs e => k2 _ _ (ne_of e a3 (fun z => nomatch z)) (k1 _ _ (ne_of e a2 (fun z => nomatch z)) e)
    have pr2 : Paired (fun (p : Addr) (e : Ent) => H2 p = some (.tup (e.2.map kV))) (ps ++ [p]) (es ++ [(kd, ks)]) := paired_snoc (Paired.mapP a3' fun _ _ z => t2 _ _ z) (t2 _ _ hp)
    have kp2 : BkKP H2 C B n (es ++ [(kd, ks)]) := ⟨b2, kk2, _, pp2, pr2⟩
    have eg : (es ++ [((kd, ks) : Ent)])[es.length]? = some (kd, ks) := by rw [List.getElem?_append_right (Nat.le_refl _), Nat.sub_self]; rfl
    have inl := ok1.inner_lt
    have dl := a4'.1
    refine ⟨_, rfl, _, _, _, _, _, rfl, b2, c.cls, c.na _ (by simp), rfl, .inl ⟨rfl, _, .of d2⟩, ?_⟩
    refine ⟨_, rfl, B.b, B.dx, _, rfl, b2, rfl, _, rfl, B, n, _, _, es.length, rfl, kp2, eg, ⟨_, ok1⟩, fun H3 qa s3 hq => ?_⟩
    refine ⟨qa, rfl, ⟨_, .of hq⟩, fun D hD => ?_⟩
    have sh : (inner (kd, ks)).length ≤ 400 := by
      have := ok1.short
      unfold inner
      split
      · exact Nat.zero_le _
      · exact Nat.le_trans (List.length_filterMap_le _ _) this
    refine lcP walk_tup (fun i => V.int (ds.getD ((inner (kd, ks)).getD i 0).toNat 0)) (by rw [List.length_map]; exact Nat.lt_of_le_of_lt sh (by decide)) hD (fun _ sm => seqT sm (.of hq)) ?_ ?_
    · rintro i y G1 G2 Q' hi sm ⟨rfl, hy⟩ hQ
      refine ⟨rfl, ?_⟩
      rw [List.length_map] at hi
      rw [List.getElem?_map, List.getElem?_eq_getElem hi] at hy
      cases hy
      have e : (inner (kd, ks)).getD i 0 = (inner (kd, ks))[i] := by rw [List.getD_eq_getElem?_getD, List.getElem?_eq_getElem hi]; rfl
      rw [e] at hQ
      have lt := inl _ (List.getElem_mem hi)
      have s4 := s3.trans sm
      refine ⟨_, rfl, _, _, _, _, _, rfl, s4 _ _ b2, c.cls, c.na _ (by simp), rfl, _, rfl, ?_⟩
      generalize (inner (kd, ks))[i] = j at *
      obtain ⟨m, rfl⟩ : ∃ m : Nat, j = (m : Int) := ⟨j.toNat, (Int.toNat_of_nonneg lt.1).symm⟩
      have hm : m < ds.length := by omega
      refine ⟨_, _, _, _, rfl, rfl, .of (s4 _ _ d2), atI_nat (j := m) (by rw [List.getElem?_map, List.getElem?_eq_getElem hm]; rfl), ?_⟩
      have e' : ds.getD (m : Int).toNat 0 = ds[m] := by rw [List.getD_eq_getElem?_getD, Int.toNat_natCast, List.getElem?_eq_getElem hm]; rfl
      rw [e'] at hQ
      exact hQ _ (Same.refl _)
    · intro H4 s34 hD4
      have s4 := s3.trans s34
      have en : (List.range ((inner (kd, ks)).map V.int).length).map (fun i => V.int (ds.getD ((inner (kd, ks)).getD i 0).toNat 0)) = ((inner (kd, ks)).map fun p => ds.getD p.toNat 0).map V.int := by
        rw [List.length_map, List.map_map]
        exact range_getD (inner (kd, ks)) 0 (fun p => V.int (ds.getD p.toNat 0))
      rw [en] at hD4
      have pos := DepOk.pos a4'
      dsimp only [tNil, tCons, tC]
      refine rMax0 (.of hD4) (fun y hy => ?_) fun m hm => ?_
      · obtain ⟨j, hj, rfl⟩ := List.mem_map.mp hy
        have lt := inl j hj
        rw [List.getD_eq_getElem?_getD, List.getElem?_eq_getElem (by omega)]
        exact pos _ (List.getElem_mem _)
      refine ⟨_, _, rfl, rfl, ?_⟩
      have d4 := s4 _ _ d2
      refine ⟨B.ld, _, _, rfl, rfl, d4, by rw [List.length_map]; omega, ?_⟩
      have e5 : (ds.map V.int) ++ [.int (1 + m)] = (ds ++ [1 + m]).map V.int := by rw [List.map_append]; rfl
      rw [e5]
      generalize hH5 : upd H4 B.ld (.lst ((ds ++ [1 + m]).map V.int)) = H5
      have k5 : ∀ x o, x ≠ B.ld → H4 x = some o → H5 x = some o := fun x o hx e => by rw [← hH5, upd_ne hx]; exact e
      have dd5 : H5 B.ld = some (.lst ((ds ++ [1 + m]).map V.int)) := by rw [← hH5, upd_same]
      have b5 := k5 _ _ i3 (s4 _ _ b2)
      refine ⟨_, rfl, _, rfl, _, _, _, _, _, rfl, b5, c.cls, c.na _ (by simp), rfl, ?_⟩
      refine ⟨_, rfl, _, rfl, by show 2 ≤ sizeLine; decide, fun t nt => ?_⟩
      have s6 : Same H5 (upd H5 t (.tup [.str kd, .ref p])) := same_upd nt
      have t4 : ∀ b xs, H b = some (.tup xs) → H5 b = some (.tup xs) := fun b xs e => k5 _ _ (ne_of e a4 (fun z => nomatch z)) (s4 _ _ (t2 b xs e))
      have n5 : H5 B.dn = some (NumO P w B.dn kvs) := k5 _ _ i7.symm (s4 _ _ (k2 _ _ i6.symm (k1 _ _ i5.symm a5)))
      refine ⟨B.dn, t, (kd, ks), kvs, rfl, rfl, ⟨s6 _ _ n5, fun x hx => (a6 x hx).keep fun b xs e => s6 _ _ (t4 b xs e)⟩, ⟨p, upd_same, s6 _ _ (t4 _ _ hp)⟩, ?_, ?_, ?_⟩
      · intro hm
        obtain ⟨x, hx, hxe⟩ := List.mem_map.mp hm
        obtain ⟨j, hj⟩ := List.mem_iff_getElem?.mp hx
        have hjl : j < es.length := by rw [← a5'.1]; exact (List.getElem?_eq_some_iff.mp hj).1
        obtain ⟨q', hq'⟩ := a5'.2 j _ (List.getElem?_eq_getElem hjl)
        rw [hj] at hq'
        cases hq'
        exact hnew (hxe ▸ List.getElem_mem hjl)
      · rw [a5'.1]; omega
      generalize hH6 : upd H5 t (.tup [.str kd, .ref p]) = H6 at s6
      refine ⟨_, rfl, ?_⟩
      show Q (.int (es.length : Nat)) (upd H6 B.dn (NumO P w B.dn (kvs ++ [((kd, ks), t, V.int (es.length : Nat))])))
      generalize hH7 : upd H6 B.dn (NumO P w B.dn (kvs ++ [((kd, ks), t, V.int (es.length : Nat))])) = H7
      have k7 : ∀ x o, x ≠ B.dn → H5 x = some o → H7 x = some o := fun x o hx e => by rw [← hH7, upd_ne hx]; exact s6 _ _ e
      have t7 : ∀ b xs, H b = some (.tup xs) → H7 b = some (.tup xs) := fun b xs e => k7 _ _ (ne_of e a5 (fun z => nomatch z)) (t4 b xs e)
      have lk7 : H7 B.lk = some (.lst ((es ++ [(kd, ks)]).map fun e => V.str e.1)) := k7 _ _ i5 (k5 _ _ n2 (s4 _ _ kk2))
      have lp7 : H7 B.lp = some (.lst ((ps ++ [p]).map V.ref)) := k7 _ _ i6 (k5 _ _ n3 (s4 _ _ pp2))
      have tt7 : H7 t = some (.tup [.str kd, .ref p]) := by
        rw [← hH7, upd_ne (ne_of_none n5 nt).symm, ← hH6, upd_same]
      refine q H7 ?_ ⟨k7 _ _ i4 b5, lk7, ⟨ps ++ [p], lp7, paired_snoc (Paired.mapP a3' fun _ _ z => t7 _ _ z) (t7 _ _ hp)⟩, ⟨ds ++ [1 + m], k7 _ _ i7 dd5, a4'.snoc a8.ok ok1 hm⟩,
        ⟨kvs ++ [((kd, ks), t, V.int (es.length : Nat))], ⟨by rw [← hH7, upd_same], fun x hx => ?_⟩, ?_, ?_⟩, ⟨n1, n2, n3⟩, ⟨?_, ?_, ?_⟩, ?_⟩
      · intro x o hx e
        simp only [BP.foot, List.mem_cons, List.not_mem_nil, or_false, not_or] at hx
        exact k7 _ _ hx.2.2.2.2 (k5 _ _ hx.2.2.2.1 (s4 _ _ (k2 _ _ hx.2.2.1 (k1 _ _ hx.2.1 e))))
      · rcases List.mem_append.mp hx with hx | hx
        · exact (a6 x hx).keep t7
        · rw [List.mem_singleton] at hx
          rw [hx]
          exact ⟨p, tt7, t7 _ _ hp⟩
      · rw [List.length_append, List.length_append, a5'.1]; rfl
      · intro i e he
        by_cases hi : i < es.length
        · rw [List.getElem?_append_left hi] at he
          rw [List.getElem?_append_left (by rw [a5'.1]; exact hi)]
          exact a5'.2 i e he
        · have hi2 : i = es.length := by
            have := (List.getElem?_eq_some_iff.mp he).1
            rw [List.length_append] at this
            simp only [List.length_singleton] at this
            omega
          subst hi2
          rw [eg] at he
          cases he
          exact ⟨t, by rw [List.getElem?_append_right (by rw [a5'.1]; exact Nat.le_refl _), a5'.1, Nat.sub_self]; rfl⟩
      · intro i e he
        by_cases hi : i < es.length
        · rw [List.getElem?_append_left hi] at he
          exact a8.ok i e he
        · have hi2 : i = es.length := by
            have := (List.getElem?_eq_some_iff.mp he).1
            rw [List.length_append] at this
            simp only [List.length_singleton] at this
            omega
          subst hi2
          rw [eg] at he
          cases he
          exact ok1
      · rw [List.nodup_append]
        exact ⟨a8.nd, by simp, fun x hx y hy => by rw [List.mem_singleton] at hy; rw [hy]; exact fun z => hnew (z ▸ hx)⟩
      · intro i hi
        rcases List.mem_append.mp hi with hi | hi
        · exact a8.fr i hi
        · rw [List.mem_singleton] at hi
          exact hfr i (congrArg Prod.fst hi).symm (congrArg Prod.snd hi).symm
      · rw [List.length_append]; exact hlen
end
end L2.My
end
section
set_option Elab.async false
set_option linter.all false
set_option maxRecDepth 100000
set_option maxHeartbeats 4000000
namespace L2.My
open PySem PySem.Spec PyProof.Rows
/-- the entry of the next fresh one -/
def freshE (es : List Ent) : Ent := ("fresh", [.inl (cntF es : Nat)])
def spFresh (P : Program) (w : World) (C : Addr) : Sp := fun vs H Q _ => ∃ B es, vs = [.ref B.b] ∧ BookAt P w H C B es ∧ es.length < 30000 ∧ ∀ H', BL B.foot H H' → BookAt P w H' C B (es ++ [freshE es]) → Q (.int (es.length : Nat)) H'
inductive DueR where
  | kind
  | parts
  | lets (e : Ent)
/-- what is due of what is put in -/
inductive Due (H : Hp) (n : Nat) : V → V → DueR → Prop where
  | kind {kv pv : V} {t : String} (ht : ThT H kv t) (hk : ∀ z, kv = .str z → PyData.strOk z = true ∧ z ∉ putK9) : Due H n kv pv .kind
  | parts {z : Str} {pv : V} (hz : z ∈ putK9) (hf : fitsV H n z pv false) : Due H n (.str z) pv .parts
  | lets {z : Str} {a : Addr} {ks : List Key} (hz : z ∈ putK9) (ha : H a = some (.tup (ks.map kV))) (hp : PtOk H (ks.map kV)) (hf : fitsT n z (ks.map kV) = true) : Due H n (.str z) (.ref a) (.lets (z, ks))
def spPut (P : Program) (w : World) (C C0 C1 : Addr) : Sp := fun vs H Q E => ∃ B es kv pv d, vs = [.ref B.b, kv, pv] ∧ BookAt P w H C B es ∧ Due H es.length kv pv d ∧ (match d with
  | .kind => ∀ H', Same H H' → E (.ref C0) none H'
  | .parts => ∀ H', Same H H' → E (.ref C1) none H'
  | .lets e => es.length < 30000 ∧ (∀ i, numE es e = some i → ∀ H', Same H H' → Q (.int (i : Nat)) H') ∧ (numE es e = none → ∀ H', BL B.foot H H' → BookAt P w H' C B (es ++ [e]) → Q (.int (es.length : Nat)) H'))
theorem cntF_snoc (es : List Ent) (e : Ent) : cntF (es ++ [e]) = cntF es + if e.1 = ("fresh" : Str) then 1 else 0 := by
  unfold cntF
  rw [List.countP_append]
  by_cases h : e.1 = ("fresh" : Str)
  · simp [h]
  · simp [h]
theorem below_all {n : Nat} {ks : List Key} (h : (ks.map kV).all (belowV (n : Nat)) = true) : ∃ is : List Int, ks = is.map .inl ∧ ∀ i ∈ is, 0 ≤ i ∧ i < n := by
  induction ks with
  | nil => exact ⟨[], rfl, fun i hi => nomatch hi⟩
  | cons k r ih =>
    rw [List.map_cons, List.all_cons, Bool.and_eq_true] at h
    obtain ⟨is, rfl, hi⟩ := ih h.2
    cases k with
    | inl i =>
      have q : 0 ≤ i ∧ i < (n : Int) := of_decide_eq_true h.1
      refine ⟨i :: is, rfl, fun j hj => ?_⟩
      rcases List.mem_cons.mp hj with rfl | hj
      · exact q
      · exact hi j hj
    | inr x => exact nomatch h.1
theorem fits_ok {n : Nat} {z : Str} {ks : List Key} (hz : z ∈ putK9) (h : fitsT n z (ks.map kV) = true) : Ok1 n (z, ks) := by
  unfold fitsT at h
  by_cases e1 : z = "name"
  · rw [if_pos e1] at h
    subst e1
    match ks, h with
    | [.inr x], h => exact .name x h
    | [.inl i], h => exact nomatch h
  rw [if_neg e1] at h
  by_cases e2 : z = "number"
  · rw [if_pos e2] at h
    subst e2
    match ks, h with
    | [.inl i], h =>
      have q : 0 ≤ i ∧ i < 1000000000000 := of_decide_eq_true h
      exact .num i q.1 (by omega)
    | [.inr x], h => exact nomatch h
  rw [if_neg e2, Bool.and_eq_true] at h
  obtain ⟨is, rfl, hi⟩ := below_all h.2
  rw [List.length_map, List.length_map] at h
  by_cases e3 : z = "row"
  · rw [if_pos e3] at h
    subst e3
    exact .row is (of_decide_eq_true h.1) hi
  · rw [if_neg e3] at h
    exact .parts z is (of_decide_eq_true h.1) hi
theorem put_not_fresh : ∀ z ∈ putK9, z ≠ ("fresh" : Str) := by decide +kernel
/-- the constant PUT_KINDS -/
structure PutC (K : PySem.W.Frag) (mg : Str → Option Value) where
  a : Addr
  g : mg "PUT_KINDS" = some (.ref a)
  at_ : ∀ H, SqT K H a (putK9.map .str)
theorem dp_strs {K : PySem.W.Frag} {H : Hp} : ∀ xs : List Str, DpAll K H (xs.map .str) (xs.map .str)
  | [] => .nil
  | x :: r => .cons (.str x) (dp_strs r)
theorem any_strs (x : Str) (xs : List Str) : ((xs.map PyData.str).any fun z => PyData.eqv z (.str x)) = decide (x ∈ xs) := by
  rw [List.any_map, Bool.eq_iff_iff, List.any_eq_true, decide_eq_true_eq]
  constructor
  · rintro ⟨y, hy, h⟩
    have h : PyData.eqv (.str y) (.str x) = true := h
    rw [eqv_str, decide_eq_true_eq] at h
    exact h ▸ hy
  · intro h
    refine ⟨x, h, ?_⟩
    show PyData.eqv (.str x) (.str x) = true
    rw [eqv_str]; exact decide_eq_true rfl
theorem shaped_put : SeqAt.shaped (.tuple (putK9.map .str)) = true := by decide +kernel
section
variable {P : Program} {w : World} {K : PySem.W.Frag} {mg : Str → Option Value} {base : Heap} {C C0 C1 C2 C3 : Addr}
theorem putF_cnt {B : BP} {n m : Int} : putF "_fresh_count" (.int m) (fieldsB B n) = fieldsB B m := rfl
theorem scFresh : FnScope ["self"] ["self"] (defScope (mth 3)) := ⟨rfl, rfl, rfl, by decide +kernel, rfl, by decide +kernel, by decide +kernel⟩
theorem ok_fresh {f fP : Addr} {fd fdP : FuncData} {k : Nat} (F : Fun K "fresh" "Book.fresh" (mth 3) f fd) (c : BkC K C)
    (GP : FnOk P w K mg base CX0 (k + 2) fP fdP ["self", "kind", "parts"] (spPutNew P w C)) (mP : Meth K C "_put_new" fP) (bP : Binds K fdP ["self", "kind", "parts"] []) : FnOk P w K mg base CX0 (k + 3) f fd ["self"] (spFresh P w C) := by
  refine F.ok scFresh (fun vs H Q E h => ?_) (fun cdv A outer s H vs Q E hr h => ?_)
  · obtain ⟨B, es, rfl, _⟩ := h
    rfl
  · obtain ⟨B, es, rfl, hB, hl, q⟩ := h
    refine ⟨_, pss_cons (ps_fldaug (pv 0) pe_int in_add) (pss_one (ps_ret (pe_meth (pv 0) c.cls mP GP hr bP .nil pass0 (pa_cons pe_str (pa_cons (pe_tup (pa_cons (pe_op op_sub (pe_fld (pv 0) rfl) pe_int) pa_nil)) pa_nil))))), ?_⟩
    refine ⟨_, rfl, _, _, _, _, _, rfl, hB.ins, c.cls, c.na _ (by simp), rfl, ?_⟩
    refine ⟨_, _, rfl, rfl, ?_⟩
    refine ⟨_, _, hB.ins, by show 5 < 1000; decide, ?_⟩
    rw [putF_cnt]
    generalize hH1 : upd H B.b (.ins C B.dx (fieldsB B ((cntF es : Nat) + 1))) = H1
    have b1 : H1 B.b = some (.ins C B.dx (fieldsB B ((cntF es : Nat) + 1))) := by rw [← hH1, upd_same]
    have k1 : ∀ x o, x ≠ B.b → H x = some o → H1 x = some o := fun x o hx e => by rw [← hH1, upd_ne hx]; exact e
    refine ⟨_, rfl, B.b, B.dx, _, rfl, b1, rfl, ?_⟩
    refine ⟨_, rfl, _, _, _, _, _, rfl, b1, c.cls, c.na _ (by simp), rfl, ?_⟩
    refine ⟨_, _, rfl, rfl, by show 1 ≤ sizeLine; decide, fun p np => ?_⟩
    have es1 : ((cntF es : Nat) : Int) + 1 - 1 = (cntF es : Nat) := by omega
    show spPutNew P w C [.ref B.b, .str "fresh", .ref p] (upd H1 p (.tup [.int (((cntF es : Nat) : Int) + 1 - 1)])) Q E0
    rw [es1]
    have s2 : Same H1 (upd H1 p (.tup [.int (cntF es : Nat)])) := same_upd np
    generalize hH2 : upd H1 p (.tup [.int (cntF es : Nat)]) = H2 at s2
    have hB2 : BookN P w H2 C B ((cntF es : Nat) + 1) es := by
      obtain ⟨a1, a2, ⟨ps, a3, a3'⟩, ⟨ds, a4, a4'⟩, ⟨kvs, ⟨a5, a6⟩, a5'⟩, a7, a8, a9⟩ := hB
      have t1 : ∀ b xs, H b = some (.tup xs) → H2 b = some (.tup xs) := fun b xs e => s2 _ _ (k1 _ _ (ne_of e a1 (fun z => nomatch z)) e)
      exact ⟨s2 _ _ b1, s2 _ _ (k1 _ _ (ne_of a2 a1 (fun z => nomatch z)) a2), ⟨ps, s2 _ _ (k1 _ _ (ne_of a3 a1 (fun z => nomatch z)) a3), Paired.mapP a3' fun _ _ z => t1 _ _ z⟩,
        ⟨ds, s2 _ _ (k1 _ _ (ne_of a4 a1 (fun z => nomatch z)) a4), a4'⟩, ⟨kvs, ⟨s2 _ _ (k1 _ _ (ne_of a5 a1 (fun z => nomatch z)) a5), fun x hx => (a6 x hx).keep t1⟩, a5'⟩, a7,
        ⟨a8.ok, a8.nd, fun i hi => by have := a8.fr i hi; omega⟩, a9⟩
    refine ⟨B, (cntF es : Nat) + 1, es, "fresh", p, [.inl (cntF es : Nat)], rfl, hB2, by rw [← hH2, upd_same]; rfl, .fresh _ (by omega), ?_, ?_, hl, fun H' bl hB' => q H' ?_ ?_⟩
    · intro hm
      have := hB.wf.fr _ hm
      omega
    · rintro i _ e
      cases e
      omega
    · intro x o hx e
      exact bl _ _ hx (s2 _ _ (k1 _ _ (fun z => hx (by rw [z]; simp [BP.foot])) e))
    · have e2 : ((cntF (es ++ [freshE es]) : Nat) : Int) = (cntF es : Nat) + 1 := by
        rw [cntF_snoc, if_pos (show (freshE es).1 = ("fresh" : Str) from rfl)]; omega
      show BookN P w H' C B (cntF (es ++ [freshE es]) : Nat) (es ++ [freshE es])
      rw [e2]
      exact hB'
theorem scPut : FnScope ["self", "kind", "parts", "number"] ["self", "kind", "parts"] (defScope (mth 2)) := ⟨rfl, rfl, rfl, by decide +kernel, rfl, by decide +kernel, by decide +kernel⟩
theorem ok_put {f fF fN fP : Addr} {fd fdF fdN fdP : FuncData} {k : Nat} (F : Fun K "put" "Book.put" (mth 2) f fd) (T : PlTxt mg) (c : BkC K C) (N : NoTxt P w K mg base C0 C1 C2 C3) (PC : PutC K mg)
    (GF : FnOk P w K mg base CX0 (k + 3) fF fdF ["self", "kind", "parts"] (spFits P w C)) (mF : Meth K C "_fits" fF) (bF : Binds K fdF ["self", "kind", "parts"] [])
    (GN : FnOk P w K mg base CX0 (k + 1) fN fdN ["self", "kind", "parts"] (spNumOf P w C)) (mN : Meth K C "number_of" fN) (bN : Binds K fdN ["self", "kind", "parts"] [])
    (GP : FnOk P w K mg base CX0 (k + 2) fP fdP ["self", "kind", "parts"] (spPutNew P w C)) (mP : Meth K C "_put_new" fP) (bP : Binds K fdP ["self", "kind", "parts"] []) : FnOk P w K mg base (CX P w) (k + 4) f fd ["self", "kind", "parts"] (spPut P w C C0 C1) := by
  refine F.okX scPut (fun vs H Q E h => ?_) (fun cdv A outer s H vs Q E hr h => ?_)
  · obtain ⟨B, es, kv, pv, d, rfl, _⟩ := h
    rfl
  · obtain ⟨B, es, kv, pvv, d, rfl, hB, hd, q⟩ := h
    have tk := takes_of (X := cxOf (CX P w) P w K mg base ["self", "kind", "parts", "number"] "Book.put" (defScope (mth 2)) f cdv A outer s H E) (E := E) rfl rfl rfl rfl
    refine ⟨_, pss_cons (ps_if (pt_or (pt_not (pt_val (pe_callB call_isTh (by rfl) T.isi (by decide +kernel) (pa_cons (pv 1) (pa_cons (pe_bltn (v := .ty "str") (u := .type "str") (by rfl) T.str_ (by decide +kernel) rfl) pa_nil)))))
        (pw_or1 (pt_cmpR (op_notInTD (u65 hr)) (pv 1) (pe_glob (v := .ref PC.a) (by rfl) PC.g rfl) (by rfl)))) (pss_one (ps_raise rfl tk (pmk_0 N.i0 rfl (hr.mono (by omega)) (by rfl) N.g0))) pss_nil)
      (pss_cons (ps_if (pt_not (pt_val (pe_meth (pv 0) c.cls mF GF (hr.mono (by omega)) bF .nil pass0 (pa_cons (pv 1) (pa_cons (pv 2) pa_nil))))) (pss_one (ps_raise rfl tk (pmk_0 N.i1 rfl (hr.mono (by omega)) (by rfl) N.g1))) pss_nil)
      (pss_cons (ps_set (i := 3) scPut.nd rfl (Or.inl rfl) (pe_meth (pv 0) c.cls mN GN (hr.mono (by omega)) bN .nil pass0 (pa_cons (pv 1) (pa_cons (pv 2) pa_nil))))
      (pss_one (ps_ret (pe_ifExp (pt_cmpR op_isN1 (pv 3) pe_non (nomark _)) (pe_meth (pv 0) c.cls mP GP (hr.mono (by omega)) bP .nil pass0 (pa_cons (pv 1) (pa_cons (pv 2) pa_nil))) (pv 3)))))), ?_⟩
    refine ⟨_, rfl, kv, "str", ?_⟩
    cases hd with
    | @kind _ _ t ht hk =>
      refine ⟨t, rfl, ht, by decide, _, rfl, ?_⟩
      cases ht with
      | str x =>
        refine iteF ?_
        obtain ⟨so, hn⟩ := hk x rfl
        refine ⟨_, rfl, .str x, putK9.map .str, .str x, .tup (PC.at_ _) (dp_strs _), shaped_str so, shaped_put, _, rfl, ?_⟩
        rw [any_strs, decide_eq_false hn]
        exact iteT ⟨fun _ h => h, q H (Same.refl H)⟩
      | int i => exact iteT (iteT ⟨fun _ h => h, q H (Same.refl H)⟩)
      | bl b => exact iteT (iteT ⟨fun _ h => h, q H (Same.refl H)⟩)
      | non => exact iteT (iteT ⟨fun _ h => h, q H (Same.refl H)⟩)
      | lst h => exact iteT (iteT ⟨fun _ h => h, q H (Same.refl H)⟩)
      | tup h => exact iteT (iteT ⟨fun _ h => h, q H (Same.refl H)⟩)
      | dct h => exact iteT (iteT ⟨fun _ h => h, q H (Same.refl H)⟩)
    | @parts z _ hz hf =>
      refine ⟨"str", rfl, .str z, by decide, _, rfl, iteF ?_⟩
      have so : PyData.strOk z = true := (show ∀ z ∈ putK9, PyData.strOk z = true by decide +kernel) z hz
      refine ⟨_, rfl, .str z, putK9.map .str, .str z, .tup (PC.at_ _) (dp_strs _), shaped_str so, shaped_put, _, rfl, ?_⟩
      rw [any_strs, decide_eq_true hz]
      refine iteF ?_
      refine ⟨_, rfl, B.b, B.dx, _, rfl, hB.ins, rfl, _, rfl, _, rfl, ?_⟩
      refine ⟨B, _, es, z, _, false, rfl, hB, hz, hf, fun H1 s1 => ⟨_, rfl, ?_⟩⟩
      exact iteT ⟨fun a ha => s1.free ha, q H1 s1⟩
    | @lets z a ks hz ha hp hf =>
      refine ⟨"str", rfl, .str z, by decide, _, rfl, iteF ?_⟩
      have so : PyData.strOk z = true := (show ∀ z ∈ putK9, PyData.strOk z = true by decide +kernel) z hz
      refine ⟨_, rfl, .str z, putK9.map .str, .str z, .tup (PC.at_ _) (dp_strs _), shaped_str so, shaped_put, _, rfl, ?_⟩
      rw [any_strs, decide_eq_true hz]
      refine iteF ?_
      refine ⟨_, rfl, B.b, B.dx, _, rfl, hB.ins, rfl, _, rfl, _, rfl, ?_⟩
      refine ⟨B, _, es, z, _, true, rfl, hB, hz, .inl ⟨a, _, rfl, ha, hp, hf.symm⟩, fun H1 s1 => ⟨_, rfl, iteF ?_⟩⟩
      have hB1 := hB.same s1
      refine ⟨_, rfl, B.b, B.dx, _, rfl, hB1.ins, rfl, _, rfl, _, rfl, ?_⟩
      refine ⟨B, _, es, z, a, ks, rfl, hB1, s1 _ _ ha, fun H2 s2 => ?_⟩
      have hB2 := hB1.same s2
      obtain ⟨hl, q1, q2⟩ := q
      refine ⟨_, rfl, rfl, _, rfl, ?_⟩
      cases hn : numE es (z, ks) with
      | some i => exact iteF ⟨_, rfl, q1 i hn H2 (s1.trans s2)⟩
      | none =>
        refine iteT ?_
        refine ⟨_, rfl, B.b, B.dx, _, rfl, hB2.ins, rfl, _, rfl, _, rfl, ?_⟩
        refine ⟨B, _, es, z, a, ks, rfl, hB2, s2 _ _ (s1 _ _ ha), fits_ok hz hf, numE_not hn, fun i e => absurd e (put_not_fresh z hz), hl, fun H3 bl hB3 => q2 hn H3 (BL.trans (.same (s1.trans s2)) bl) ?_⟩
        show BookN P w H3 C B (cntF (es ++ [(z, ks)]) : Nat) (es ++ [(z, ks)])
        rw [cntF_snoc, if_neg (put_not_fresh z hz)]
        exact hB3
end
end L2.My
end
section
set_option Elab.async false
set_option linter.all false
set_option maxRecDepth 100000
set_option maxHeartbeats 4000000
namespace L2.My
open PySem PySem.Spec PyProof.Rows
section
variable {X : Cx}
theorem call_sortedDN (hcalm : X.calm = true) : CallR X (.builtin "sorted") (fun xs H Q => ∃ (a : Addr) (kvs : List (Key × V)) (ks : List Int), xs = [.ref a] ∧ Rd H a (.dK kvs) ∧ kvs.map (·.1) = ks.map Sum.inl ∧ kvs.length ≤ 1000000 ∧
    ∀ (ys : List Int) (p : Addr), ys.Perm ks → ys.Pairwise (· ≤ ·) → H p = none → Q (.ref p) (upd H p (.lst (ys.map V.int)))) := by
  intro pins s σ H xs us Q I r q
  obtain ⟨a, kvs, ks, ex, hd, hks, h64, q⟩ := q
  subst ex
  obtain ⟨u, eu, rx⟩ := vals1 r
  subst eu
  cases rx
  obtain ⟨z, lo, vs, rel, dd⟩ := dk_rd I.hok hd
  obtain ⟨ep, hat⟩ := dd.dictAt
  have hkeys : vs.map (·.1) = ks.map Sum.inl := rel.keys.symm.trans hks
  have hl : vs.length = ks.length := by
    have e := congrArg List.length hkeys
    rw [List.length_map, List.length_map] at e
    exact e
  have hlk : kvs.length = ks.length := by
    have e := congrArg List.length hks
    rw [List.length_map, List.length_map] at e
    exact e
  have h16 : vs.length ≤ sizeLine := by rw [hl, sizeLine_eq]; omega
  refine Calls.call_function_entry PyProof.Rows.kind_sorted PyProof.Rows.plain_sorted PyProof.Rows.entry_sorted (PyProof.Rows.args_sorted1 _) ?_
  unfold Builtin.«sorted»
  refine wpAny_bind (m := checkCount "sorted" 1 1 _) (wpAny_pure ?_)
  refine wpAny_bind (PySem.W.kdu_collect (A := X.A.in1) (PySem.W.kdl_dict (knd := mixKind X.prog X.w) (kvs := vs) (ep := ep) lo) (I.ok.hd hcalm) hat h16 fun h' tk acc hk hacc => ?_)
  have hal : acc.toList.length = ks.length := by rw [Array.length_toList, hacc.1, hl]
  have hS : IntsAre acc.toList ks := ints_each hal fun j v e => by
    obtain ⟨k, x, e1, e2⟩ := hacc.2 j v (by rw [← Array.getElem?_toList]; exact e)
    have e3 : (vs.map (·.1))[j]? = some k := by rw [List.getElem?_map, e1]; rfl
    rw [hkeys, List.getElem?_map] at e3
    cases e4 : ks[j]? with
    | none => rw [e4] at e3; cases e3
    | some y =>
      rw [e4] at e3
      have e5 : Sum.inl y = k := Option.some.inj e3
      subst e5
      rcases keyIs_shape (show keyIs (Sum.inl y) v = true from e2) with ⟨i, t, ek, ev⟩ | ⟨z, t, ek, ev⟩
      · cases ek
        exact ⟨y, t, rfl, ev⟩
      · cases ek
  have I1 : Inv X pins σ H { s with heap := h', toks := tk } := I.kept hk
  refine wpAny_bind (wpAny_newList ?_ (by rw [hal, sizeLine_eq]; omega))
  have hoL : (h'.push (seqObj "list" acc.toList.toArray 0)).get? h'.objs.size = some (seqObj "list" acc.toList.toArray 0) := Heap.get?_push_size _ rfl
  show wpAny _ _ _ _ _ { s with heap := h'.push (seqObj "list" acc.toList.toArray 0), toks := tk }
  refine wpAny_bind (wpAny_holding (wpAny_call_entry PyProof.Rows.slot_list_sort ⟨_, hoL, rfl⟩ PyProof.Rows.entry_list_sort
    (SrtO.list_sort_ord (s := { s with heap := h'.push (seqObj "list" acc.toList.toArray 0), toks := tk }) SrtO.swo_int hoL (by rw [hal, sizeLine_eq]; omega) (fun h2 => SrtO.ints_sortable hS h2) fun out h1 h2 => ⟨_, rfl, ?_⟩) (PyProof.Rows.args_list_sort _)))
  obtain ⟨k1, k2, k3⟩ := SrtO.ints_out hS h1 h2
  obtain ⟨e', he'⟩ := PyProof.Rows.sortedHeap_at (vs := acc.toList) (out := out.toArray) hoL
  have hlen : ((out.map SrtO.iv).map V.int).length ≤ sizeLine := by
    rw [List.length_map, k2.length_eq, sizeLine_eq]
    omega
  refine wpAny_pure ⟨_, rfl, .ref h'.objs.size, upd H h'.objs.size (.lst ((out.map SrtO.iv).map V.int)), I1.laid (t' := tk) (fun b u e => ?_) (Nat.le_refl _)
    (show ObjOk X.prog X.w _ _ _ (.lst ((out.map SrtO.iv).map V.int)) from ⟨hlen, out, e', vals_of_ints k1, he'⟩), rfl, q _ _ k2 k3 (I1.hok.fresh (Nat.le_refl _))⟩
  have hb : b < h'.objs.size := Heap.lt_size e
  rw [PyProof.Rows.sortedHeap_old (Nat.ne_of_lt hb) (by rw [size_push']; exact Nat.lt_succ_of_lt hb)]
  exact Heap.get?_push_of_some _ e
end
end L2.My
end
section
set_option Elab.async false
set_option linter.all false
set_option maxRecDepth 100000
set_option maxHeartbeats 4000000
namespace L2.My
open PySem PySem.Spec PyProof.Rows
/-! ### all within some -/
inductive Reach (es : List Ent) (ts : List Int) : Int → Prop where
  | base {i : Int} (h : i ∈ ts) : Reach es ts i
  | step {j i : Int} {e : Ent} (h : Reach es ts j) (he : es[j.toNat]? = some e) (hi : i ∈ inner e) : Reach es ts i
theorem Reach.lt {es : List Ent} {ts : List Int} (wf : ∀ (i : Nat) (e : Ent), es[i]? = some e → Ok1 i e) (ht : ∀ i ∈ ts, 0 ≤ i ∧ i < (es.length : Nat)) {i : Int} (h : Reach es ts i) : 0 ≤ i ∧ i < (es.length : Nat) := by
  induction h with
  | base h => exact ht _ h
  | @step j i e h he hi ih =>
    have := (wf _ _ he).inner_lt i hi
    omega
structure DfsI (es : List Ent) (ts fs ws : List Int) : Prop where
  nd : fs.Nodup
  reach : ∀ i ∈ fs, Reach es ts i
  wreach : ∀ i ∈ ws, Reach es ts i
  base : ∀ i ∈ ts, i ∈ fs ∨ i ∈ ws
  clos : ∀ i ∈ fs, ∀ e, es[i.toNat]? = some e → ∀ j ∈ inner e, j ∈ fs ∨ j ∈ ws
def dfsM (n : Nat) (fs ws : List Int) : Nat := ((List.range n).countP fun k : Nat => decide ((k : Int) ∉ fs)) * 401 + ws.length
theorem countP_lt {α : Type} {p q : α → Bool} : ∀ {l : List α}, (∀ x, q x = true → p x = true) → (∃ x ∈ l, p x = true ∧ q x = false) → l.countP q < l.countP p
  | [], _, ⟨x, hx, _⟩ => nomatch hx
  | y :: r, h, ⟨x, hx, h1, h2⟩ => by
    rw [List.countP_cons, List.countP_cons]
    rcases List.mem_cons.mp hx with rfl | hx
    · have : r.countP q ≤ r.countP p := List.countP_mono_left fun a _ => h a
      simp only [h1, h2, if_true, Bool.false_eq_true, if_false]
      omega
    · have ih := countP_lt h ⟨x, hx, h1, h2⟩
      by_cases hq : q y = true
      · rw [if_pos hq, if_pos (h y hq)]; omega
      · rw [if_neg hq]; split <;> omega
section
variable {es : List Ent} {ts fs ws : List Int} {t : Int}
theorem DfsI.old (h : DfsI es ts fs (ws ++ [t])) (ht : t ∈ fs) : DfsI es ts fs ws := by
  obtain ⟨a, b, c, d, e⟩ := h
  have key : ∀ i, (i ∈ fs ∨ i ∈ ws ++ [t]) → (i ∈ fs ∨ i ∈ ws) := fun i hi => by
    rcases hi with hi | hi
    · exact .inl hi
    · rcases List.mem_append.mp hi with hi | hi
      · exact .inr hi
      · rw [List.mem_singleton] at hi; rw [hi]; exact .inl ht
  exact ⟨a, b, fun i hi => c i (List.mem_append_left _ hi), fun i hi => key i (d i hi), fun i hi x hx j hj => key j (e i hi x hx j hj)⟩
theorem DfsI.new (h : DfsI es ts fs (ws ++ [t])) (ht : t ∉ fs) {x : Ent} (hx : es[t.toNat]? = some x) : DfsI es ts (fs ++ [t]) (ws ++ inner x) := by
  obtain ⟨a, b, c, d, e⟩ := h
  have rt : Reach es ts t := c t (List.mem_append_right _ (List.mem_singleton.mpr rfl))
  have key : ∀ i, (i ∈ fs ∨ i ∈ ws ++ [t]) → (i ∈ fs ++ [t] ∨ i ∈ ws ++ inner x) := fun i hi => by
    rcases hi with hi | hi
    · exact .inl (List.mem_append_left _ hi)
    · rcases List.mem_append.mp hi with hi | hi
      · exact .inr (List.mem_append_left _ hi)
      · exact .inl (List.mem_append_right _ hi)
  refine ⟨?_, fun i hi => ?_, fun i hi => ?_, fun i hi => key i (d i hi), fun i hi y hy j hj => ?_⟩
  · rw [List.nodup_append]
    exact ⟨a, by simp, fun u hu v hv => by rw [List.mem_singleton] at hv; rw [hv]; exact fun z => ht (z ▸ hu)⟩
  · rcases List.mem_append.mp hi with hi | hi
    · exact b i hi
    · rw [List.mem_singleton] at hi; rw [hi]; exact rt
  · rcases List.mem_append.mp hi with hi | hi
    · exact c i (List.mem_append_left _ hi)
    · exact .step rt hx hi
  · rcases List.mem_append.mp hi with hi | hi
    · exact key j (e i hi y hy j hj)
    · rw [List.mem_singleton] at hi
      rw [hi, hx] at hy
      cases hy
      exact .inr (List.mem_append_right _ hj)
theorem DfsI.fin (h : DfsI es ts fs []) : ∀ i, i ∈ fs ↔ Reach es ts i := fun i => ⟨h.reach i, fun r => by
  induction r with
  | base h' => rcases h.base _ h' with q | q
               · exact q
               · exact nomatch q
  | @step j i e _ he hi ih => rcases h.clos j ih e he i hi with q | q
                              · exact q
                              · exact nomatch q⟩
theorem DfsI.start (es : List Ent) (ts : List Int) : DfsI es ts [] ts := ⟨List.nodup_nil, (fun _ h => nomatch h), (fun i h => .base h), (fun i h => .inr h), (fun _ h => nomatch h)⟩
theorem dfsM_old {n : Nat} : dfsM n fs ws < dfsM n fs (ws ++ [t]) := by
  unfold dfsM
  rw [List.length_append, List.length_singleton]
  omega
theorem dfsM_new {n : Nat} (h0 : 0 ≤ t) (h1 : t < (n : Nat)) (ht : t ∉ fs) {us : List Int} (hl : us.length ≤ 400) : dfsM n (fs ++ [t]) (ws ++ us) < dfsM n fs (ws ++ [t]) := by
  unfold dfsM
  have := countP_lt (p := fun k : Nat => decide ((k : Int) ∉ fs)) (q := fun k : Nat => decide ((k : Int) ∉ fs ++ [t])) (l := List.range n) (fun x hx => by
      have hx := of_decide_eq_true hx
      exact decide_eq_true fun z => hx (List.mem_append_left _ z)) ⟨t.toNat, List.mem_range.mpr (by omega), decide_eq_true (by rw [Int.toNat_of_nonneg h0]; exact ht), decide_eq_false (by rw [Int.toNat_of_nonneg h0]; simp)⟩
  rw [List.length_append, List.length_append, List.length_singleton]
  omega
def cntN (n : Nat) (fs : List Int) : Nat := (List.range n).countP fun k : Nat => decide ((k : Int) ∉ fs)
theorem cntN_new {n : Nat} (h0 : 0 ≤ t) (h1 : t < (n : Nat)) (ht : t ∉ fs) : cntN n (fs ++ [t]) < cntN n fs :=
  countP_lt (p := fun k : Nat => decide ((k : Int) ∉ fs)) (q := fun k : Nat => decide ((k : Int) ∉ fs ++ [t])) (l := List.range n) (fun x hx => by
      have hx := of_decide_eq_true hx
      exact decide_eq_true fun z => hx (List.mem_append_left _ z)) ⟨t.toNat, List.mem_range.mpr (by omega), decide_eq_true (by rw [Int.toNat_of_nonneg h0]; exact ht), decide_eq_false (by rw [Int.toNat_of_nonneg h0]; simp)⟩
theorem cntN_le {n : Nat} : cntN n fs ≤ n := by
  have := List.countP_le_length (p := fun k : Nat => decide ((k : Int) ∉ fs)) (l := List.range n)
  rw [List.length_range] at this
  exact this
theorem inner_le {n : Nat} {e : Ent} (h : Ok1 n e) : (inner e).length ≤ 400 := by
  have := h.short
  unfold inner
  split
  · exact Nat.zero_le _
  · exact Nat.le_trans (List.length_filterMap_le _ _) this
end
/-- the dict of found ones -/
def fndO (fs : List Int) : List (Key × V) := fs.map fun i => (Sum.inl i, V.bl true)
theorem fnd_is (fs : List Int) (t : Int) : (valV (fndO fs) (.inl t)).isSome = decide (t ∈ fs) := by
  rw [← valV_any, Bool.eq_iff_iff, List.any_eq_true, decide_eq_true_eq]
  constructor
  · rintro ⟨x, hx, h⟩
    obtain ⟨i, hi, rfl⟩ := List.mem_map.mp hx
    have : (Sum.inl i : Key) = .inl t := of_decide_eq_true h
    cases this
    exact hi
  · intro h
    exact ⟨_, List.mem_map.mpr ⟨t, h, rfl⟩, decide_eq_true rfl⟩
theorem fnd_put {fs : List Int} {t : Int} (h : t ∉ fs) : putK (fndO fs) (.inl t) (.bl true) = fndO (fs ++ [t]) := by
  rw [putK_new]
  · unfold fndO; rw [List.map_append]; rfl
  · have := fnd_is fs t
    rw [decide_eq_false h] at this
    cases q : valV (fndO fs) (.inl t) with
    | none => rfl
    | some x => rw [q] at this; exact nomatch this
theorem fnd_keys (fs : List Int) : (fndO fs).map (·.1) = fs.map Sum.inl := by unfold fndO; rw [List.map_map]; rfl
theorem fnd_len (fs : List Int) : (fndO fs).length = fs.length := List.length_map _
theorem dfsM_bound {n : Nat} {fs ws : List Int} : dfsM n fs ws ≤ n * 401 + ws.length := by
  unfold dfsM
  have := List.countP_le_length (p := fun k : Nat => decide ((k : Int) ∉ fs)) (l := List.range n)
  rw [List.length_range] at this
  have := Nat.mul_le_mul_right 401 this
  omega
end L2.My
end
section
set_option Elab.async false
set_option linter.all false
set_option maxRecDepth 100000
set_option maxHeartbeats 4000000
namespace L2.My
open PySem PySem.Spec PyProof.Rows
/-- a list or a tuple -/
def SeqA (H : Hp) (a : Addr) (xs : List V) : Prop := H a = some (.lst xs) ∨ H a = some (.tup xs)
inductive WDue (H : Hp) (n : Nat) : V → Option (List Int) → Prop where
  | none1 {v : V} {t : String} (ht : ThT H v t) (h1 : t ≠ "list") (h2 : t ≠ "tuple") : WDue H n v none
  | none2 {a : Addr} {xs : List V} (ha : SeqA H a xs) (hl : xs.length ≤ 100000) (ht : ∀ x ∈ xs, ∃ t, ThT H x t) (hb : xs.all (belowV (n : Nat)) = false) : WDue H n (.ref a) none
  | some {a : Addr} {ts : List Int} (ha : SeqA H a (ts.map .int)) (hl : ts.length ≤ 100000) (hb : ∀ i ∈ ts, 0 ≤ i ∧ i < (n : Nat)) : WDue H n (.ref a) (some ts)
/-- a new sorted list of all that is reached -/
def Told (H H' : Hp) (D : Addr) (es : List Ent) (ts : List Int) : Prop := Same H H' ∧ H D = none ∧ ∃ ys : List Int, H' D = some (.lst (ys.map .int)) ∧ ys.Pairwise (· ≤ ·) ∧ ys.Nodup ∧ (∀ i, i ∈ ys ↔ Reach es ts i) ∧ ys.length ≤ es.length
def spWithin (P : Program) (w : World) (C C3 : Addr) : Sp := fun vs H Q E => ∃ B es v d, vs = [.ref B.b, v] ∧ BookAt P w H C B es ∧ WDue H es.length v d ∧ (match d with
  | none => ∀ H', Same H H' → E (.ref C3) none H'
  | some ts => ∀ H' D, Told H H' D es ts → Q (.ref D) H')
theorem kitAny_lt {K : PySem.W.Frag} : ∀ t ∈ ["NoneType", "bool", "int", "str", "list", "tuple", "dict"], PySem.W.kitAny K (.type t) [.type "list", .type "tuple"] = some (decide (t = "list" ∨ t = "tuple")) := by
  have h1 : ∀ t ∈ ["NoneType", "bool", "int", "str", "list", "tuple", "dict"], kitB t "list" = some (decide (t = "list")) := by decide +kernel
  have h2 : ∀ t ∈ ["NoneType", "bool", "int", "str", "list", "tuple", "dict"], kitB t "tuple" = some (decide (t = "tuple")) := by decide +kernel
  intro t ht
  refine kitAny_cons (kit_ty (h1 t ht)) (fun e => kitAny_cons (kit_ty (h2 t ht)) (fun e2 => ?_) fun e2 => ?_) fun e => ?_
  · have a := of_decide_eq_false e
    have b := of_decide_eq_false e2
    rw [decide_eq_false (fun z => z.elim a b)]
    rfl
  · exact decide_eq_true (.inr (of_decide_eq_true e2))
  · exact decide_eq_true (.inl (of_decide_eq_true e))
theorem u1 {k : Nat} {A : Around} (h : Room k A) : A.units + 1 < cLine := by have := h.un; omega
theorem ThT.not_seq {H : Hp} {v : V} {t : String} (h : ThT H v t) (h1 : t ≠ "list") (h2 : t ≠ "tuple") : decide (t = "list" ∨ t = "tuple") = false := decide_eq_false fun z => z.elim h1 h2
section
variable {P : Program} {w : World} {K : PySem.W.Frag} {mg : Str → Option Value} {base : Heap} {C C0 C1 C2 C3 : Addr}
theorem scWithin : FnScope ["self", "terms", "found", "waiting", "term"] ["self", "terms"] (defScope (mth 10)) := ⟨rfl, rfl, rfl, by decide +kernel, rfl, by decide +kernel, by decide +kernel⟩
theorem ok_within {f fA fI : Addr} {fd fdA fdI : FuncData} {k : Nat} (F : Fun K "within" "Book.within" (mth 10) f fd) (T : PlTxt mg) (c : BkC K C) (N : NoTxt P w K mg base C0 C1 C2 C3)
    (GA : FnOk P w K mg base CX0 (k + 2) fA fdA ["self", "things"] (spAreT P w K C)) (mA : Meth K C "_are_terms" fA) (bA : Binds K fdA ["self", "things"] [])
    (GI : FnOk P w K mg base CX0 (k + 1) fI fdI ["self", "term"] (spInner C)) (mI : Meth K C "_inner" fI) (bI : Binds K fdI ["self", "term"] []) : FnOk P w K mg base (CX P w) (k + 3) f fd ["self", "terms"] (spWithin P w C C3) := by
  refine F.okX scWithin (fun vs H Q E h => ?_) (fun cdv A outer s H vs Q E hr h => ?_)
  · obtain ⟨B, es, v, d, rfl, _⟩ := h
    rfl
  · obtain ⟨B, es, v, d, rfl, hB, hd, q⟩ := h
    have tk := takes_of (X := cxOf (CX P w) P w K mg base ["self", "terms", "found", "waiting", "term"] "Book.within" (defScope (mth 10)) f cdv A outer s H E) (E := E) rfl rfl rfl rfl
    have own := passes_of (X := cxOf (CX P w) P w K mg base ["self", "terms", "found", "waiting", "term"] "Book.within" (defScope (mth 10)) f cdv A outer s H E) (K := fun e s'' => CX P w outer H s E e s'') rfl
    refine ⟨_, pss_cons (ps_if (pt_or (pt_not (pt_val (pe_callB call_isiT (by rfl) T.isi (by decide +kernel) (pa_cons (pv 1) (pa_cons (pe_tup (pa_cons (pe_bltn (v := .ty "list") (u := .type "list") (by rfl) T.list_ (by decide +kernel) rfl) (pa_cons (pe_bltn (v := .ty "tuple") (u := .type "tuple") (by rfl) T.tuple_ (by decide +kernel) rfl) pa_nil))) pa_nil)))))
        (pw_or1 (pt_not (pt_val (pe_meth (pv 0) c.cls mA GA (hr.mono (by omega)) bA .nil pass0 (pa_cons (pv 1) pa_nil)))))) (pss_one (ps_raise rfl tk (pmk_0 N.i3 rfl (hr.mono (by omega)) (by rfl) N.g3))) pss_nil)
      (pss_cons (ps_set (i := 2) scWithin.nd rfl (Or.inl rfl) pe_dnewK)
      (pss_cons (ps_set (i := 3) scWithin.nd rfl (Or.inl rfl) (pe_callTy call_list_of (by rfl) T.list_ (by decide +kernel) (pa_cons (pv 1) pa_nil)))
      (pss_cons (ps_while own (pt_truth (pv 3) (fun _ => rfl))
        (pss_cons (ps_set (i := 4) scWithin.nd rfl (Or.inl rfl) (pe_bm0 PySem.F.plainAttrs_list PySem.F.slot_list_pop PySem.F.type_list_pop mt_pop (pv 3)))
        (pss_one (ps_if (pt_cmp (pc_dnotin (u1 hr) (pv 4) (pv 2)) (by rfl))
          (pss_cons (ps_dput (u1 hr) (pv 2) (pv 4) pe_bl rfl)
          (pss_one (ps_expr (pe_bm PySem.F.plainAttrs_list PySem.F.slot_list_extend PySem.F.type_list_extend mt_extT (pv 3) (pa_cons (pe_meth (pv 0) c.cls mI GI (hr.mono (by omega)) bI .nil pass0 (pa_cons (pv 4) pa_nil)) pa_nil))))) pss_nil))))
      (pss_one (ps_ret (pe_callB (call_sortedDN rfl) (by rfl) T.sorted_ (by decide +kernel) (pa_cons (pv 2) pa_nil))))))), ?_⟩
    refine ⟨_, rfl, by show 2 ≤ sizeLine; decide, fun tp ntp => ?_⟩
    generalize hH1 : upd H tp (.tup [.ty "list", .ty "tuple"]) = H1
    have s1 : Same H H1 := by rw [← hH1]; exact same_upd ntp
    have tp1 : H1 tp = some (.tup [.ty "list", .ty "tuple"]) := by rw [← hH1, upd_same]
    have hB1 := hB.same s1
    have cls2 : Paired ClsV [.ty "list", .ty "tuple"] [.type "list", .type "tuple"] := .cons (.ty _) (.cons (.ty _) .nil)
    -- what is a list or a tuple
    have seq : ∀ a xs, SeqA H a xs → (∃ t, ThT H (.ref a) t ∧ (t = "list" ∨ t = "tuple")) ∧ (SqL K H1 a xs ∨ SqT K H1 a xs) := fun a xs h => by
      rcases h with h | h
      · exact ⟨⟨_, .lst h, .inl rfl⟩, .inl (.of (s1 _ _ h))⟩
      · exact ⟨⟨_, .tup h, .inr rfl⟩, .inr (.of (s1 _ _ h))⟩
    cases hd with
    | @none1 _ t ht h1 h2 =>
      refine ⟨v, tp, _, .type t, _, _, rfl, tp1, cls2, (ht.keep s1).tyX, kitAny_lt t ht.mem, _, rfl, ?_⟩
      rw [ht.not_seq h1 h2]
      exact iteT (iteT ⟨fun a ha => s1.free ha, q H1 s1⟩)
    | @none2 a xs ha hl ht hb =>
      obtain ⟨⟨t, h, ht2⟩, hS⟩ := seq a xs ha
      refine ⟨.ref a, tp, _, .type t, _, _, rfl, tp1, cls2, (h.keep s1).tyX, kitAny_lt t h.mem, _, rfl, ?_⟩
      rw [decide_eq_true ht2]
      refine iteF ?_
      refine ⟨_, rfl, B.b, B.dx, _, rfl, hB1.ins, rfl, _, rfl, B, _, es, a, xs, rfl, hB1, hS, hl, fun x hx => ?_, fun H2 s2 => ⟨_, rfl, ?_⟩⟩
      · obtain ⟨t, ht⟩ := ht x hx
        exact ⟨t, ht.keep s1⟩
      · rw [hb]
        exact iteT ⟨fun a ha => s1.free (s2.free ha), q H2 (s1.trans s2)⟩
    | @some a ts ha hl hb =>
      obtain ⟨⟨t, h, ht2⟩, hS⟩ := seq a _ ha
      refine ⟨.ref a, tp, _, .type t, _, _, rfl, tp1, cls2, (h.keep s1).tyX, kitAny_lt t h.mem, _, rfl, ?_⟩
      rw [decide_eq_true ht2]
      refine iteF ?_
      refine ⟨_, rfl, B.b, B.dx, _, rfl, hB1.ins, rfl, _, rfl, B, _, es, a, _, rfl, hB1, hS, by rw [List.length_map]; exact hl, fun x hx => ?_, fun H2 s2 => ⟨_, rfl, ?_⟩⟩
      · obtain ⟨i, _, rfl⟩ := List.mem_map.mp hx
        exact ⟨_, .int i⟩
      have hall : (ts.map V.int).all (belowV (es.length : Nat)) = true := by
        rw [List.all_map]
        exact List.all_eq_true.mpr fun i hi => decide_eq_true (hb i hi)
      rw [hall]
      refine iteF ?_
      -- found, waiting
      have hS2 : SqL K H2 a (ts.map .int) ∨ SqT K H2 a (ts.map .int) := by
        rcases hS with h | h
        · exact .inl (s2.seq h)
        · exact .inr (seqT s2 h)
      refine fun D nD => ?_
      have s3 : Same H2 (upd H2 D (.dK [])) := same_upd nD
      refine ⟨_, rfl, a, ts.map .int, rfl, ?_, fun l nl => ?_⟩
      · rcases hS2 with h | h
        · exact .inl (s3.seq h)
        · exact .inr (seqT s3 h)
      have s4 := same_upd (o := .lst (ts.map V.int)) nl
      have s24 := s2.trans (s3.trans s4)
      have nDl : D ≠ l := ne_of_none (upd_same (H := H2)) nl
      have wf := hB.wf.ok
      have bl4 : BL [D, l] H1 (upd (upd H2 D (.dK [])) l (.lst (ts.map V.int))) := .same s24
      have nD1 : H1 D = none := s2.free nD
      have nl1 : H1 l = none := s2.free (s3.free nl)
      have lim : dfsM es.length [] ts ≤ 12130000 := by
        refine Nat.le_trans dfsM_bound ?_
        have := Nat.mul_le_mul_right 401 hB.len
        omega
      refine ⟨fun m σ G => ∃ x fs ws, σ = [some (.ref B.b), some (.ref a), some (.ref D), some (.ref l), x] ∧ DfsI es ts fs ws ∧ BL [D, l] H1 G ∧ G D = some (.dK (fndO fs)) ∧ G l = some (.lst (ws.map .int)) ∧ m = dfsM es.length fs ws ∧ m ≤ 12130000 ∧ fs.length + cntN es.length fs ≤ es.length,
        ⟨dfsM es.length [] ts, none, [], ts, rfl, DfsI.start es ts, bl4, by rw [upd_ne nDl, upd_same]; rfl, by rw [upd_same], rfl, lim, by show 0 + _ ≤ _; rw [Nat.zero_add]; exact cntN_le⟩, ?_⟩
      rintro m σ G ⟨x, fs, ws, rfl, di, bl, gD, gl, rfl, hm, hf⟩
      have nm : ∀ y o, H1 y = some o → y ≠ D ∧ y ≠ l := fun y o e => ⟨ne_of_none e nD1, ne_of_none e nl1⟩
      have hBG : BookAt P w G C B es := hB1.keep (fun p hp => by
          obtain ⟨o, ho⟩ := hB1.there p hp
          have := nm _ _ ho
          rw [ho, bl p o (by simp [this.1, this.2]) ho]) fun b xs e => bl b _ (by have := nm _ _ e; simp [this.1, this.2]) e
      refine ⟨_, rfl, !(ws.map V.int).isEmpty, .inl ⟨_, .of gl, rfl⟩, ?_⟩
      rcases List.eq_nil_or_concat ws with rfl | ⟨wr, t, rfl⟩
      · refine iteF ?_
        have big : (200000000 : Nat) ≤ 1000000000000 := by decide
        have lb := hB.len
        refine ⟨_, rfl, D, _, fs, rfl, .inl gD, fnd_keys fs, by rw [fnd_len]; omega, fun ys p hperm hsort np => ?_⟩
        refine q _ p ⟨s1.trans ?_, s1.free ?_, ys, upd_same, hsort, hperm.nodup_iff.mpr di.nd, (fun i => by rw [hperm.mem_iff]; exact di.fin i), by rw [hperm.length_eq]; omega⟩
        · intro y o e
          have := nm _ _ e
          have e2 := bl y o (by simp [this.1, this.2]) e
          rw [upd_ne (ne_of_none e2 np)]
          exact e2
        · cases e : H1 p with
          | none => rfl
          | some o =>
            have := nm _ _ e
            rw [bl p o (by simp [this.1, this.2]) e] at np
            cases np
      · rw [List.concat_eq_append] at *
        have ne : (!((wr ++ [t]).map V.int).isEmpty) = true := by simp
        rw [ne]
        refine iteT ⟨fun σ' G' => ∃ m', m' < dfsM es.length fs (wr ++ [t]) ∧ ∃ x fs ws, σ' = [some (.ref B.b), some (.ref a), some (.ref D), some (.ref l), x] ∧ DfsI es ts fs ws ∧ BL [D, l] H1 G' ∧ G' D = some (.dK (fndO fs)) ∧ G' l = some (.lst (ws.map .int)) ∧ m' = dfsM es.length fs ws ∧ m' ≤ 12130000 ∧ fs.length + cntN es.length fs ≤ es.length, fun _ _ h => h, ?_⟩
        have rt := di.wreach t (by simp)
        have lt := rt.lt wf hb
        obtain ⟨i, rfl⟩ : ∃ i : Nat, t = (i : Nat) := ⟨t.toNat, (Int.toNat_of_nonneg lt.1).symm⟩
        have hi : i < es.length := by omega
        have hge : es[i]? = some es[i] := List.getElem?_eq_getElem hi
        have lb := hB.len
        have bound := dfsM_bound (n := es.length) (fs := fs) (ws := wr)
        refine ⟨_, rfl, .inl ⟨rfl, _, .of gl⟩, l, _, .int (i : Nat), rfl, rfl, gl, by simp, ?_⟩
        have e1 : ((wr ++ [((i : Nat) : Int)]).map V.int).dropLast = wr.map V.int := by rw [List.map_append]; simp
        rw [e1]
        generalize hG1 : upd G l (.lst (wr.map V.int)) = G1
        have nDl' : D ≠ l := nDl
        have g1l : G1 l = some (.lst (wr.map V.int)) := by rw [← hG1, upd_same]
        have g1D : G1 D = some (.dK (fndO fs)) := by rw [← hG1, upd_ne nDl']; exact gD
        have bl1 : BL [D, l] H1 G1 := by rw [← hG1]; exact bl.trans (.upd (by simp))
        refine ⟨_, rfl, _, rfl, D, _, rfl, .k (k := .inl (i : Nat)) g1D, _, rfl, ?_⟩
        rw [fnd_is]
        by_cases ht : ((i : Nat) : Int) ∈ fs
        · rw [decide_eq_true ht]
          refine iteF ?_
          exact ⟨_, dfsM_old, _, fs, wr, rfl, di.old ht, bl1, g1D, g1l, rfl, Nat.le_trans (Nat.le_of_lt dfsM_old) hm, hf⟩
        · rw [decide_eq_false ht]
          refine iteT ?_
          have big : (13000000 : Nat) ≤ sizeLine := by decide
          refine ⟨_, rfl, _, rfl, D, _, rfl, .k (k := .inl (i : Nat)) (v := .bl true) g1D (by rw [fnd_len]; omega), ?_⟩
          rw [fnd_put ht]
          generalize hG2 : upd G1 D (.dK (fndO (fs ++ [((i : Nat) : Int)]))) = G2
          have g2D : G2 D = some (.dK (fndO (fs ++ [((i : Nat) : Int)]))) := by rw [← hG2, upd_same]
          have g2l : G2 l = some (.lst (wr.map V.int)) := by rw [← hG2, upd_ne nDl'.symm]; exact g1l
          have bl2 : BL [D, l] H1 G2 := by rw [← hG2]; exact bl1.trans (.upd (by simp))
          have hB2 : BookAt P w G2 C B es := hB1.keep (fun p hp => by
            obtain ⟨o, ho⟩ := hB1.there p hp
            have := nm _ _ ho
            rw [ho, bl2 p o (by simp [this.1, this.2]) ho]) fun b xs e => bl2 b _ (by have := nm _ _ e; simp [this.1, this.2]) e
          have lw : wr.length ≤ 12130000 := by
            have : dfsM es.length fs (wr ++ [((i : Nat) : Int)]) ≤ 12130000 := hm
            unfold dfsM at this
            rw [List.length_append, List.length_singleton] at this
            omega
          have li := inner_le (wf i _ hge)
          refine ⟨_, rfl, .inl ⟨rfl, _, .of g2l⟩, _, rfl, B.b, B.dx, _, rfl, hB2.ins, rfl, _, rfl, B, _, es, es[i], i, rfl, hB2.kp, hge, ⟨_, wf i _ hge⟩, fun G3 q3 s3 hq3 => ?_⟩
          refine ⟨l, q3, _, _, rfl, rfl, s3 _ _ g2l, .of hq3, by rw [List.length_map, List.length_map]; omega, ?_⟩
          have e2 : (wr.map V.int) ++ ((inner es[i]).map V.int) = (wr ++ inner es[i]).map V.int := by rw [List.map_append]
          rw [e2]
          have nl3 : BL [D, l] H1 (upd G3 l (.lst ((wr ++ inner es[i]).map V.int))) := bl2.trans (BL.trans (.same s3) (.upd (by simp)))
          have mlt := dfsM_new (n := es.length) (ws := wr) (us := inner es[i]) lt.1 lt.2 ht li
          have clt := cntN_new (n := es.length) lt.1 lt.2 ht
          refine ⟨_, mlt, _, _, _, rfl, di.new ht (by rw [Int.toNat_natCast]; exact hge), nl3, by rw [upd_ne nDl']; exact s3 _ _ g2D, upd_same, rfl, Nat.le_trans (Nat.le_of_lt mlt) hm, ?_⟩
          rw [List.length_append, List.length_singleton]
          omega
end
end L2.My
end
section
set_option Elab.async false
set_option linter.all false
set_option maxRecDepth 100000
set_option maxHeartbeats 4000000
namespace L2.My
open PySem PySem.Spec PyProof.Rows
def spInit (P : Program) (w : World) (C : Addr) : Sp := fun vs H Q _ => ∃ x dx, vs = [.ref x] ∧ H x = some (.ins C dx []) ∧ ∀ H' B, B.b = x → B.dx = dx → BL [x] H H' → (∀ p ∈ [B.lk, B.lp, B.ld, B.dn], H p = none) → BookAt P w H' C B [] → Q .non H'
section
variable {P : Program} {w : World} {K : PySem.W.Frag} {mg : Str → Option Value} {base : Heap} {C C0 C1 C2 C3 : Addr}
theorem scInit : FnScope ["self"] ["self"] (defScope (mth 0)) := ⟨rfl, rfl, rfl, by decide +kernel, rfl, by decide +kernel, by decide +kernel⟩
theorem ok_init {f : Addr} {fd : FuncData} {k : Nat} (F : Fun K "__init__" "Book.__init__" (mth 0) f fd) (c : BkC K C) : FnOk P w K mg base CX0 (k + 1) f fd ["self"] (spInit P w C) := by
  refine F.ok scInit (fun vs H Q E h => ?_) (fun cdv A outer s H vs Q E hr h => ?_)
  · obtain ⟨x, dx, rfl, _⟩ := h
    rfl
  · obtain ⟨x, dx, rfl, hx, q⟩ := h
    refine ⟨_, pss_cons (ps_fld (pv 0) (pe_lst pa_nil) rfl) (pss_cons (ps_fld (pv 0) (pe_lst pa_nil) rfl) (pss_cons (ps_fld (pv 0) (pe_lst pa_nil) rfl) (pss_cons (ps_fld (pv 0) pe_nnew rfl) (pss_one (ps_fld (pv 0) pe_int rfl))))), ?_⟩
    refine ⟨by show 0 ≤ sizeLine; decide, fun lk nlk => ?_⟩
    have s1 : Same H (upd H lk (.lst [])) := same_upd nlk
    refine ⟨_, rfl, x, C, dx, _, rfl, s1 _ _ hx, c.cls, c.na _ (by simp), by show 0 < 1000; decide, ?_⟩
    generalize hG1 : upd (upd H lk (.lst [])) x (.ins C dx (putF "_kinds" (.ref lk) [])) = G1
    have xlk : x ≠ lk := ne_of_none hx nlk
    have g1x : G1 x = some (.ins C dx (putF "_kinds" (.ref lk) [])) := by rw [← hG1, upd_same]
    have g1k : G1 lk = some (.lst []) := by rw [← hG1, upd_ne xlk.symm, upd_same]
    have b1 : BL [x] H G1 := by rw [← hG1]; exact BL.trans (.same s1) (.upd (by simp))
    have fr : ∀ {G : Hp} {p : Addr}, BL [x] H G → G x ≠ none → G p = none → H p = none := fun {G p} b gx e => by
      cases q : H p with
      | none => rfl
      | some o =>
        by_cases hp : p = x
        · rw [hp] at e; exact absurd e gx
        · rw [b p o (by simp [hp]) q] at e; cases e
    refine ⟨by show 0 ≤ sizeLine; decide, fun lp nlp => ?_⟩
    have s2 : Same G1 (upd G1 lp (.lst [])) := same_upd nlp
    refine ⟨_, rfl, x, C, dx, _, rfl, s2 _ _ g1x, c.cls, c.na _ (by simp), by show 1 < 1000; decide, ?_⟩
    generalize hG2 : upd (upd G1 lp (.lst [])) x (.ins C dx (putF "_parts" (.ref lp) (putF "_kinds" (.ref lk) []))) = G2
    have xlp : x ≠ lp := ne_of_none g1x nlp
    have klp : lk ≠ lp := ne_of_none g1k nlp
    have g2x : G2 x = some (.ins C dx (putF "_parts" (.ref lp) (putF "_kinds" (.ref lk) []))) := by rw [← hG2, upd_same]
    have g2k : G2 lk = some (.lst []) := by rw [← hG2, upd_ne xlk.symm]; exact s2 _ _ g1k
    have g2p : G2 lp = some (.lst []) := by rw [← hG2, upd_ne xlp.symm, upd_same]
    have b2 : BL [x] H G2 := b1.trans (by rw [← hG2]; exact BL.trans (.same s2) (.upd (by simp)))
    refine ⟨by show 0 ≤ sizeLine; decide, fun ld nld => ?_⟩
    have s3 : Same G2 (upd G2 ld (.lst [])) := same_upd nld
    refine ⟨_, rfl, x, C, dx, _, rfl, s3 _ _ g2x, c.cls, c.na _ (by simp), by show 2 < 1000; decide, ?_⟩
    generalize hG3 : upd (upd G2 ld (.lst [])) x (.ins C dx (putF "_depths" (.ref ld) (putF "_parts" (.ref lp) (putF "_kinds" (.ref lk) [])))) = G3
    have xld : x ≠ ld := ne_of_none g2x nld
    have g3x : G3 x = some (.ins C dx (putF "_depths" (.ref ld) (putF "_parts" (.ref lp) (putF "_kinds" (.ref lk) [])))) := by rw [← hG3, upd_same]
    have g3k : G3 lk = some (.lst []) := by rw [← hG3, upd_ne xlk.symm]; exact s3 _ _ g2k
    have g3p : G3 lp = some (.lst []) := by rw [← hG3, upd_ne xlp.symm]; exact s3 _ _ g2p
    have g3d : G3 ld = some (.lst []) := by rw [← hG3, upd_ne xld.symm, upd_same]
    have b3 : BL [x] H G3 := b2.trans (by rw [← hG3]; exact BL.trans (.same s3) (.upd (by simp)))
    refine fun dn ndn => ?_
    have s4 : Same G3 (upd G3 dn (NumO P w dn [])) := same_upd ndn
    refine ⟨_, rfl, x, C, dx, _, rfl, s4 _ _ g3x, c.cls, c.na _ (by simp), by show 3 < 1000; decide, ?_⟩
    have xdn : x ≠ dn := ne_of_none g3x ndn
    generalize hG4 : upd (upd G3 dn (NumO P w dn [])) x (.ins C dx (putF "_numbers" (.ref dn) (putF "_depths" (.ref ld) (putF "_parts" (.ref lp) (putF "_kinds" (.ref lk) []))))) = G4
    have g4x : G4 x = some (.ins C dx (putF "_numbers" (.ref dn) (putF "_depths" (.ref ld) (putF "_parts" (.ref lp) (putF "_kinds" (.ref lk) []))))) := by rw [← hG4, upd_same]
    have g4k : G4 lk = some (.lst []) := by rw [← hG4, upd_ne xlk.symm]; exact s4 _ _ g3k
    have g4p : G4 lp = some (.lst []) := by rw [← hG4, upd_ne xlp.symm]; exact s4 _ _ g3p
    have g4d : G4 ld = some (.lst []) := by rw [← hG4, upd_ne xld.symm]; exact s4 _ _ g3d
    have g4n : G4 dn = some (NumO P w dn []) := by rw [← hG4, upd_ne xdn.symm, upd_same]
    have b4 : BL [x] H G4 := b3.trans (by rw [← hG4]; exact BL.trans (.same s4) (.upd (by simp)))
    have e5 : (upd (upd G3 dn (NumO P w dn [])) x (.ins C dx (putF "_numbers" (.ref dn) (putF "_depths" (.ref ld) (putF "_parts" (.ref lp) (putF "_kinds" (.ref lk) [])))))) = G4 := hG4
    refine ⟨_, rfl, x, C, dx, _, rfl, by rw [upd_same], c.cls, c.na _ (by simp), by show 4 < 1000; decide, ?_⟩
    have e6 : upd (upd (upd G3 dn (NumO P w dn [])) x (.ins C dx (putF "_numbers" (.ref dn) (putF "_depths" (.ref ld) (putF "_parts" (.ref lp) (putF "_kinds" (.ref lk) [])))))) x (.ins C dx (fieldsB ⟨x, dx, lk, lp, ld, dn⟩ 0)) = upd G4 x (.ins C dx (fieldsB ⟨x, dx, lk, lp, ld, dn⟩ 0)) := by rw [e5]
    show Q .non (upd (upd (upd G3 dn (NumO P w dn [])) x (.ins C dx (putF "_numbers" (.ref dn) (putF "_depths" (.ref ld) (putF "_parts" (.ref lp) (putF "_kinds" (.ref lk) [])))))) x (.ins C dx (fieldsB ⟨x, dx, lk, lp, ld, dn⟩ 0)))
    rw [e6]
    have up : ∀ y o, y ≠ x → G4 y = some o → (upd G4 x (.ins C dx (fieldsB ⟨x, dx, lk, lp, ld, dn⟩ 0))) y = some o := fun y o hy e => by rw [upd_ne hy]; exact e
    refine q _ ⟨x, dx, lk, lp, ld, dn⟩ rfl rfl (b4.trans (.upd (by simp))) (fun p hp => ?_) ⟨upd_same, up _ _ xlk.symm g4k, ⟨[], up _ _ xlp.symm g4p, .nil⟩, ⟨[], up _ _ xld.symm g4d, rfl, fun i e he => (by simp at he)⟩,
      ⟨[], ⟨up _ _ xdn.symm g4n, fun x hx => nomatch hx⟩, rfl, fun i e he => (by simp at he)⟩, ⟨klp, ne_of_none g2k nld, ne_of_none g2p nld⟩, ⟨fun i e he => (by simp at he), List.nodup_nil, fun i hi => nomatch hi⟩, Nat.zero_le _⟩
    simp only [List.mem_cons, List.not_mem_nil, or_false] at hp
    rcases hp with rfl | rfl | rfl | rfl
    · exact nlk
    · exact fr b1 (by rw [g1x]; simp) nlp
    · exact fr b2 (by rw [g2x]; simp) nld
    · exact fr b3 (by rw [g3x]; simp) ndn
end
end L2.My
end
section
set_option Elab.async false
set_option linter.all false
set_option maxRecDepth 100000
set_option maxHeartbeats 4000000
namespace L2.My
open PySem PySem.Spec PyProof.Rows
theorem yes_of {σ : St} {H : Hp} {f g : Hp → Prop} (h : f H) : tYes σ H fun b H3 => if b = true then f H3 else g H3 := by
  show ite (true = true) (f H) (g H)
  rw [if_pos rfl]
  exact h
def spCopy (P : Program) (w : World) (C : Addr) : Sp := fun vs H Q _ => ∃ B es, vs = [.ref B.b] ∧ BookAt P w H C B es ∧ ∀ H' B', Same H H' → (∀ p ∈ B'.foot, H p = none) → BookAt P w H' C B' es → Q (.ref B'.b) H'
section
variable {P : Program} {w : World} {K : PySem.W.Frag} {mg : Str → Option Value} {base : Heap} {C C0 C1 C2 C3 : Addr}
theorem scCopy : FnScope ["self", "other", "key"] ["self"] (defScope (mth 11)) := ⟨rfl, rfl, rfl, by decide +kernel, rfl, by decide +kernel, by decide +kernel⟩
theorem ok_copy {f fI : Addr} {fd fdI : FuncData} {k : Nat} (F : Fun K "copy" "Book.copy" (mth 11) f fd) (T : PlTxt mg) (c : BkC K C) (gB : mg "Book" = some (.ref C)) (M : Mk K C fI)
    (GI : FnOk P w K mg base CX0 (k + 1) fI fdI ["self"] (spInit P w C)) (bI : Binds K fdI ["self"] []) : FnOk P w K mg base CX0 (k + 3) f fd ["self"] (spCopy P w C) := by
  refine F.ok scCopy (fun vs H Q E h => ?_) (fun cdv A outer s H vs Q E hr h => ?_)
  · obtain ⟨B, es, rfl, _⟩ := h
    rfl
  · obtain ⟨B, es, rfl, hB, q⟩ := h
    refine ⟨_, pss_cons (ps_set (i := 1) scCopy.nd rfl (Or.inl rfl) (pe_make0 M GI hr (by rfl) gB bI .nil pass0))
      (pss_cons (ps_fld (pv 1) (pe_callTy call_list_of (by rfl) T.list_ (by decide +kernel) (pa_cons (pe_fld (pv 0) rfl) pa_nil)) rfl)
      (pss_cons (ps_fld (pv 1) (pe_callTy call_list_of (by rfl) T.list_ (by decide +kernel) (pa_cons (pe_fld (pv 0) rfl) pa_nil)) rfl)
      (pss_cons (ps_fld (pv 1) (pe_callTy call_list_of (by rfl) T.list_ (by decide +kernel) (pa_cons (pe_fld (pv 0) rfl) pa_nil)) rfl)
      (pss_cons (ps_fld (pv 1) (pe_lock (pe_dcN (tv := tNIx P w (tFld K (tVar 0) "_numbers") (tVar 2)) (own := [("key", 2)]) (g := gName 2) (u2 hr) rfl scCopy.nd (pi_keysN (pe_fld (pv 0) rfl))
          (blkOk_by (N := ["self", "other", "key"]) (sc := defScope (mth 11)) (by decide +kernel)) (fun _ _ _ _ _ => pg_name (i := 2) scCopy.nd rfl (Or.inl rfl)) (fun _ _ _ _ _ => pts_nil)
          (fun _ _ _ _ _ => pv 2) (fun _ _ _ _ _ => pe_nix (u2 hr) (pe_fld (pv 0) rfl) (pv 2) (fun _ _ => rfl)))) rfl)
      (pss_cons (ps_fld (pv 1) (pe_fld (pv 0) rfl) rfl)
      (pss_one (ps_ret (pv 1)))))))), ?_⟩
    obtain ⟨a1, a2, ⟨ps, a3, a3'⟩, ⟨ds, a4, a4'⟩, ⟨kvs, ⟨a5, a6⟩, a5'⟩, a7, a8, a9⟩ := hB
    intro x dx nx ndx hne
    refine ⟨x, dx, rfl, upd_same, ?_⟩
    rintro G1 ⟨b0, dx0, lk0, lp0, ld0, dn0⟩ rfl rfl bl0 hp0 hB0
    refine ⟨rfl, ?_⟩
    have s1 : Same H G1 := fun y o e => by
      have h1 : y ≠ b0 := ne_of_none e nx
      have h2 : y ≠ dx0 := ne_of_none e ndx
      exact bl0 y o (by simp [h1]) (by rw [upd_ne h1, upd_ne h2]; exact e)
    have g1x : G1 b0 = some (.ins C dx0 (fieldsB ⟨b0, dx0, lk0, lp0, ld0, dn0⟩ 0)) := hB0.ins
    -- setting a field of the new one
    have keep : ∀ (G : Hp) (o : HO), Same H G → Same H (upd G b0 o) := fun G o s y u e => by
      rw [upd_ne (ne_of_none e nx)]; exact s _ _ e
    refine ⟨_, rfl, _, _, _, _, _, rfl, s1 _ _ a1, c.cls, c.na _ (by simp), rfl, B.lk, _, rfl, .inl (.of (s1 _ _ a2)), fun l1 n1 => ?_⟩
    have t1 := same_upd (o := .lst (es.map fun e => V.str e.1)) n1
    refine ⟨_, rfl, b0, C, dx0, _, rfl, t1 _ _ g1x, c.cls, c.na _ (by simp), by show 5 < 1000; decide, ?_⟩
    show tNext _ _ (upd (upd G1 l1 (.lst (es.map fun e => V.str e.1))) b0 (.ins C dx0 (fieldsB ⟨b0, dx0, l1, lp0, ld0, dn0⟩ 0)))
    have b1 : b0 ≠ l1 := ne_of_none g1x n1
    generalize hG2 : upd (upd G1 l1 (.lst (es.map fun e => V.str e.1))) b0 (.ins C dx0 (fieldsB ⟨b0, dx0, l1, lp0, ld0, dn0⟩ 0)) = G2
    have s2 : Same H G2 := by rw [← hG2]; exact keep _ _ (s1.trans t1)
    have g2x : G2 b0 = some (.ins C dx0 (fieldsB ⟨b0, dx0, l1, lp0, ld0, dn0⟩ 0)) := by rw [← hG2, upd_same]
    have g2k : G2 l1 = some (.lst (es.map fun e => V.str e.1)) := by rw [← hG2, upd_ne b1.symm, upd_same]
    refine ⟨_, rfl, _, _, _, _, _, rfl, s2 _ _ a1, c.cls, c.na _ (by simp), rfl, B.lp, _, rfl, .inl (.of (s2 _ _ a3)), fun l2 n2 => ?_⟩
    have t2 := same_upd (o := .lst (ps.map V.ref)) n2
    refine ⟨_, rfl, b0, C, dx0, _, rfl, t2 _ _ g2x, c.cls, c.na _ (by simp), by show 5 < 1000; decide, ?_⟩
    show tNext _ _ (upd (upd G2 l2 (.lst (ps.map V.ref))) b0 (.ins C dx0 (fieldsB ⟨b0, dx0, l1, l2, ld0, dn0⟩ 0)))
    have b2 : b0 ≠ l2 := ne_of_none g2x n2
    generalize hG3 : upd (upd G2 l2 (.lst (ps.map V.ref))) b0 (.ins C dx0 (fieldsB ⟨b0, dx0, l1, l2, ld0, dn0⟩ 0)) = G3
    have s3 : Same H G3 := by rw [← hG3]; exact keep _ _ (s2.trans t2)
    have g3x : G3 b0 = some (.ins C dx0 (fieldsB ⟨b0, dx0, l1, l2, ld0, dn0⟩ 0)) := by rw [← hG3, upd_same]
    have g3k : G3 l1 = some (.lst (es.map fun e => V.str e.1)) := by rw [← hG3, upd_ne b1.symm]; exact t2 _ _ g2k
    have g3p : G3 l2 = some (.lst (ps.map V.ref)) := by rw [← hG3, upd_ne b2.symm, upd_same]
    refine ⟨_, rfl, _, _, _, _, _, rfl, s3 _ _ a1, c.cls, c.na _ (by simp), rfl, B.ld, _, rfl, .inl (.of (s3 _ _ a4)), fun l3 n3 => ?_⟩
    have t3 := same_upd (o := .lst (ds.map V.int)) n3
    refine ⟨_, rfl, b0, C, dx0, _, rfl, t3 _ _ g3x, c.cls, c.na _ (by simp), by show 5 < 1000; decide, ?_⟩
    show tNext _ _ (upd (upd G3 l3 (.lst (ds.map V.int))) b0 (.ins C dx0 (fieldsB ⟨b0, dx0, l1, l2, l3, dn0⟩ 0)))
    have b3 : b0 ≠ l3 := ne_of_none g3x n3
    generalize hG4 : upd (upd G3 l3 (.lst (ds.map V.int))) b0 (.ins C dx0 (fieldsB ⟨b0, dx0, l1, l2, l3, dn0⟩ 0)) = G4
    have s4 : Same H G4 := by rw [← hG4]; exact keep _ _ (s3.trans t3)
    have g4x : G4 b0 = some (.ins C dx0 (fieldsB ⟨b0, dx0, l1, l2, l3, dn0⟩ 0)) := by rw [← hG4, upd_same]
    have g4k : G4 l1 = some (.lst (es.map fun e => V.str e.1)) := by rw [← hG4, upd_ne b1.symm]; exact t3 _ _ g3k
    have g4p : G4 l2 = some (.lst (ps.map V.ref)) := by rw [← hG4, upd_ne b2.symm]; exact t3 _ _ g3p
    have g4d : G4 l3 = some (.lst (ds.map V.int)) := by rw [← hG4, upd_ne b3.symm, upd_same]
    -- the dict
    refine ⟨B.dn, NumO P w B.dn kvs, s4 _ _ a5, True.intro, fun od => ?_⟩
    generalize hF : upd G4 B.dn (.frz od (NumO P w B.dn kvs)) = F0
    have fdn : F0 B.dn = some (.frz od (NumO P w B.dn kvs)) := by rw [← hF, upd_same]
    have fk : ∀ y o, y ≠ B.dn → G4 y = some o → F0 y = some o := fun y o hy e => by rw [← hF, upd_ne hy]; exact e
    have idn : B.b ≠ B.dn := ne_of a1 a5 (fun z => nomatch z)
    have f1 := fk _ _ idn (s4 _ _ a1)
    refine ⟨_, rfl, _, _, _, _, _, rfl, f1, c.cls, c.na _ (by simp), rfl, B.dn, od, kvs, rfl, fdn, fun D nD => ?_⟩
    have nDd : D ≠ B.dn := (ne_of_none fdn nD).symm
    have nd : (kvs.map (·.1)).Nodup := by
      have e : kvs.map (·.1) = es := by
        apply List.ext_getElem?
        intro i
        by_cases hi : i < es.length
        · obtain ⟨q', hq'⟩ := a5'.2 i _ (List.getElem?_eq_getElem hi)
          rw [List.getElem?_map, hq', List.getElem?_eq_getElem hi]; rfl
        · rw [List.getElem?_eq_none (by rw [List.length_map, a5'.1]; omega), List.getElem?_eq_none (by omega)]
      rw [e]; exact a8.nd
    have ent : ∀ y ∈ kvs, EntAt F0 y.2.1 y.1 := fun y hy => (a6 y hy).keep fun b xs e => fk _ _ (ne_of e a5 (fun z => nomatch z)) (s4 _ _ e)
    have big : (30001 : Nat) ≤ sizeLine := by decide
    refine ⟨fun i m G => m = kvs.length - i ∧ i ≤ kvs.length ∧ Same F0 G ∧ G D = some (NumO P w D (kvs.take i)), ⟨kvs.length, by omega, Nat.zero_le _, same_upd nD, by rw [upd_same]; rfl⟩, ?_⟩
    rintro i m G ⟨rfl, hi, sG, gD⟩
    by_cases hlt : i < kvs.length
    · refine .inr ⟨⟨sG _ _ fdn, hlt⟩, fun G' => i + 1 ≤ kvs.length ∧ Same F0 G' ∧ G' D = some (NumO P w D (kvs.take (i + 1))), fun G' h => ⟨kvs.length - (i + 1), by omega, rfl, h⟩, ?_⟩
      rintro y G' ⟨rfl, e, qa, v, hk, rfl⟩
      refine ⟨rfl, ?_⟩
      refine yes_of ?_
      have hm := List.mem_of_getElem? hk
      have fv : valN kvs e = some v := by
        have key : ∀ x ∈ kvs, x.1 = e → x = (e, qa, v) := by
          intro z hz hze
          obtain ⟨j, hj⟩ := List.mem_iff_getElem?.mp hz
          have hji : j = i := by
            have h1 : (kvs.map (·.1))[j]? = some e := by rw [List.getElem?_map, hj, Option.map_some, hze]
            have h2 : (kvs.map (·.1))[i]? = some e := by rw [List.getElem?_map, hk]; rfl
            exact (List.getElem?_inj (List.getElem?_eq_some_iff.mp h1).1 nd).mp (h1.trans h2.symm)
          rw [hji, hk] at hj
          exact (Option.some.inj hj).symm
        unfold valN
        cases f : kvs.find? fun x => decide (x.1 = e) with
        | none =>
          rw [List.find?_eq_none] at f
          exact absurd (decide_eq_true rfl) (f _ hm)
        | some z =>
          have hz := List.find?_some f
          have h1 := key z (List.mem_of_find?_eq_some f) (of_decide_eq_true hz)
          rw [h1]; rfl
      have entG : ∀ y ∈ kvs, EntAt G' y.2.1 y.1 := fun y hy => (ent y hy).keep fun b xs e => sG _ _ e
      refine ⟨_, rfl, _, rfl, _, _, _, _, _, rfl, sG _ _ f1, c.cls, c.na _ (by simp), rfl, _, rfl, ?_⟩
      refine ⟨B.dn, qa, e, kvs, v, rfl, rfl, ⟨.inr ⟨od, sG _ _ fdn⟩, entG⟩, entG _ hm, fv, ?_⟩
      refine ⟨kvs.take i, e, qa, rfl, ⟨gD, fun y hy => entG _ (List.mem_of_mem_take hy)⟩, entG _ hm, ?_, ?_, ?_⟩
      · intro hmem
        obtain ⟨z, hz, hze⟩ := List.mem_map.mp hmem
        obtain ⟨j, hj, hjz⟩ := List.mem_iff_getElem.mp hz
        rw [List.length_take] at hj
        rw [List.getElem_take] at hjz
        have h1 : (kvs.map (·.1))[j]? = some e := by rw [List.getElem?_map, List.getElem?_eq_getElem (by omega), hjz, Option.map_some, hze]
        have h2 : (kvs.map (·.1))[i]? = some e := by rw [List.getElem?_map, hk]; rfl
        have := (List.getElem?_inj (List.getElem?_eq_some_iff.mp h1).1 nd).mp (h1.trans h2.symm)
        omega
      · rw [List.length_take, a5'.1]; omega
      · refine ⟨hlt, same_grow (Same.refl _) nD sG, ?_⟩
        show upd G' D (NumO P w D (kvs.take i ++ [(e, qa, v)])) D = _
        rw [upd_same]
        have e7 : kvs.take i ++ [(e, qa, v)] = kvs.take (i + 1) := by
          rw [List.take_add_one, hk]; rfl
        rw [e7]
    · have ei : i = kvs.length := by omega
      subst ei
      refine .inl ⟨⟨sG _ _ fdn, Nat.le_refl _⟩, sG _ _ fdn, ?_⟩
      rw [List.take_length] at gD
      -- the dict is free again
      generalize hG5 : upd G B.dn (NumO P w B.dn kvs) = G5
      have s5 : Same G4 G5 := fun y o e => by
        by_cases hy : y = B.dn
        · rw [hy, s4 _ _ a5] at e
          cases e
          rw [← hG5, hy, upd_same]
        · rw [← hG5, upd_ne hy]
          exact sG _ _ (fk _ _ hy e)
      have g5D : G5 D = some (NumO P w D kvs) := by rw [← hG5, upd_ne nDd]; exact gD
      have h5 : Same H G5 := s4.trans s5
      refine ⟨_, rfl, b0, C, dx0, _, rfl, s5 _ _ g4x, c.cls, c.na _ (by simp), by show 5 < 1000; decide, ?_⟩
      show tNext _ _ (upd G5 b0 (.ins C dx0 (fieldsB ⟨b0, dx0, l1, l2, l3, D⟩ 0)))
      generalize hG6 : upd G5 b0 (.ins C dx0 (fieldsB ⟨b0, dx0, l1, l2, l3, D⟩ 0)) = G6
      have s6 : Same H G6 := by rw [← hG6]; exact keep _ _ h5
      have g6x : G6 b0 = some (.ins C dx0 (fieldsB ⟨b0, dx0, l1, l2, l3, D⟩ 0)) := by rw [← hG6, upd_same]
      refine ⟨_, rfl, _, _, _, _, _, rfl, s6 _ _ a1, c.cls, c.na _ (by simp), rfl, _, rfl, b0, C, dx0, _, rfl, g6x, c.cls, c.na _ (by simp), by show 5 < 1000; decide, ?_⟩
      show tNext _ _ (upd G6 b0 (.ins C dx0 (fieldsB ⟨b0, dx0, l1, l2, l3, D⟩ (cntF es : Nat))))
      refine ⟨_, rfl, ?_⟩
      have nD0 : H D = none := by
        cases e : H D with
        | none => rfl
        | some o =>
          have := fk D o nDd (s4 _ _ e)
          rw [nD] at this; cases this
      have bD : b0 ≠ D := by
        intro z
        have := fk b0 _ (fun z => by rw [z, a5] at nx; cases nx) g4x
        rw [z, nD] at this; cases this
      have up : ∀ y o, y ≠ b0 → G5 y = some o → (upd G6 b0 (.ins C dx0 (fieldsB ⟨b0, dx0, l1, l2, l3, D⟩ (cntF es : Nat)))) y = some o := fun y o hy e => by
        rw [upd_ne hy, ← hG6, upd_ne hy]; exact e
      have upT : ∀ y xs, H y = some (.tup xs) → (upd G6 b0 (.ins C dx0 (fieldsB ⟨b0, dx0, l1, l2, l3, D⟩ (cntF es : Nat)))) y = some (.tup xs) := fun y xs e => up _ _ (ne_of_none e nx) (h5 _ _ e)
      refine q _ ⟨b0, dx0, l1, l2, l3, D⟩ (keep _ _ s6) (fun p hp => ?_) ⟨upd_same, up _ _ b1.symm (s5 _ _ g4k), ⟨ps, up _ _ b2.symm (s5 _ _ g4p), Paired.mapP a3' fun _ _ z => upT _ _ z⟩, ⟨ds, up _ _ b3.symm (s5 _ _ g4d), a4'⟩,
        ⟨kvs, ⟨up _ _ bD.symm g5D, fun y hy => (a6 y hy).keep upT⟩, a5'⟩, ⟨ne_of_none g2k n2, ne_of_none g3k n3, ne_of_none g3p n3⟩, a8, a9⟩
      simp only [BP.foot, List.mem_cons, List.not_mem_nil, or_false] at hp
      rcases hp with rfl | rfl | rfl | rfl | rfl
      · exact nx
      · exact s1.free n1
      · exact s2.free n2
      · exact s3.free n3
      · exact nD0
end
end L2.My
end
section
set_option Elab.async false
set_option linter.all false
set_option maxRecDepth 100000
set_option maxHeartbeats 4000000
namespace L2.My
open PySem PySem.Spec PyProof.Rows
abbrev sAny : Stmt := top 24
abbrev sOld : Stmt := top 25
abbrev sInn : Stmt := top 27
abbrev sWit : Stmt := top 28
abbrev sIsN : Stmt := top 29
abbrev sDeep : Stmt := top 32
def spAny : Sp := fun vs H Q _ => ∃ (b g : Addr) (m : Int), vs = [.ref b, .int m] ∧ BagAt H b g ∧ 0 < m ∧ m < 1073741824 ∧ ∀ H' r, But b g H H' → BagAt H' b g → 0 ≤ r → r < m → Q (.int r) H'
def spInn : Sp := fun vs H Q _ => ∃ q e, vs = [.ref q] ∧ EntAt H q e ∧ (∃ m, Ok1 m e) ∧ ∀ H' p, Same H H' → H' p = some (.tup ((inner e).map .int)) → Q (.ref p) H'
def spIsN : Sp := fun vs H Q _ => ∃ n v t, vs = [v, .int n] ∧ ThT H v t ∧ Q (.bl (belowV n v)) H
section
variable {P : Program} {w : World} {K : PySem.W.Frag} {mg : Str → Option Value} {base : Heap}
theorem scAny : FnScope ["bag", "many"] ["bag", "many"] (defScope sAny) := ⟨rfl, rfl, rfl, by decide +kernel, rfl, by decide +kernel, by decide +kernel⟩
theorem ok_any {f fP : Addr} {fd fdP : FuncData} {k : Nat} (F : Fun K "_law_any" "_law_any" sAny f fd) (mmin : mg "min" = none) (GP : FnOk P w K mg base CX0 (k + 1) fP fdP ["bag", "many"] spPick) (kP : PySem.W.keepIn K (.ref fP) = true) (gP : mg "_law_pick" = some (.ref fP)) (bP : Binds K fdP ["bag", "many"] []) :
    FnOk P w K mg base CX0 (k + 2) f fd ["bag", "many"] spAny := by
  refine F.ok scAny (fun vs H Q E h => ?_) (fun cdv A outer s H vs Q E hr h => ?_)
  · obtain ⟨b, g, m, rfl, _⟩ := h
    rfl
  · obtain ⟨b, g, m, rfl, hB, h0, h1, q⟩ := h
    refine ⟨_, pss_one (ps_ret (pe_ifExp (pt_cmpR op_gt (pe_call GP hr (by rfl) gP kP bP .nil pass0 (pa_cons (pv 0) (pa_cons pe_int pa_nil))) pe_int (nomark _))
        (pe_op op_sub (pe_op op_sub (pv 1) pe_int) (pe_call GP hr (by rfl) gP kP bP .nil pass0 (pa_cons (pv 0) (pa_cons (pe_callB (call_min2 rfl) (by rfl) mmin (by decide +kernel) (pa_cons (pv 1) (pa_cons pe_int pa_nil))) pa_nil))))
        (pe_call GP hr (by rfl) gP kP bP .nil pass0 (pa_cons (pv 0) (pa_cons (pv 1) pa_nil))))), ?_⟩
    refine ⟨_, rfl, b, g, 3, rfl, hB, by decide, by decide, fun H1 r1 b1 hB1 _ _ => ?_⟩
    refine ⟨_, _, rfl, rfl, _, rfl, ?_⟩
    refine ite2 (fun _ => ?_) (fun _ => ?_)
    · refine ⟨_, rfl, _, _, rfl, rfl, _, rfl, _, rfl, _, _, rfl, ?_⟩
      refine ⟨b, g, _, rfl, hB1, ?_, ?_, fun H2 r2 b2 hB2 h2 h3 => ?_⟩
      · split <;> omega
      · split <;> omega
      · refine ⟨_, _, rfl, rfl, q H2 _ (b1.trans b2) hB2 ?_ ?_⟩
        · by_cases hm : (6 : Int) < m
          · rw [if_pos hm] at h3; omega
          · rw [if_neg hm] at h3; omega
        · omega
    · refine ⟨_, rfl, _, rfl, b, g, m, rfl, hB1, h0, h1, fun H2 r2 b2 hB2 h2 h3 => q H2 r2 (b1.trans b2) hB2 h2 h3⟩
theorem scOld : FnScope ["bag", "many"] ["bag", "many"] (defScope sOld) := ⟨rfl, rfl, rfl, by decide +kernel, rfl, by decide +kernel, by decide +kernel⟩
theorem ok_old {f fP : Addr} {fd fdP : FuncData} {k : Nat} (F : Fun K "_law_old" "_law_old" sOld f fd) (mmin : mg "min" = none) (GP : FnOk P w K mg base CX0 (k + 1) fP fdP ["bag", "many"] spPick) (kP : PySem.W.keepIn K (.ref fP) = true) (gP : mg "_law_pick" = some (.ref fP)) (bP : Binds K fdP ["bag", "many"] []) :
    FnOk P w K mg base CX0 (k + 2) f fd ["bag", "many"] spAny := by
  refine F.ok scOld (fun vs H Q E h => ?_) (fun cdv A outer s H vs Q E hr h => ?_)
  · obtain ⟨b, g, m, rfl, _⟩ := h
    rfl
  · obtain ⟨b, g, m, rfl, hB, h0, h1, q⟩ := h
    refine ⟨_, pss_one (ps_ret (pe_ifExp (pt_cmpR op_gt (pe_call GP hr (by rfl) gP kP bP .nil pass0 (pa_cons (pv 0) (pa_cons pe_int pa_nil))) pe_int (nomark _))
        (pe_call GP hr (by rfl) gP kP bP .nil pass0 (pa_cons (pv 0) (pa_cons (pe_callB (call_min2 rfl) (by rfl) mmin (by decide +kernel) (pa_cons (pv 1) (pa_cons pe_int pa_nil))) pa_nil)))
        (pe_call GP hr (by rfl) gP kP bP .nil pass0 (pa_cons (pv 0) (pa_cons (pv 1) pa_nil))))), ?_⟩
    refine ⟨_, rfl, b, g, 4, rfl, hB, by decide, by decide, fun H1 r1 b1 hB1 _ _ => ?_⟩
    refine ⟨_, _, rfl, rfl, _, rfl, ?_⟩
    refine ite2 (fun _ => ?_) (fun _ => ?_)
    · refine ⟨_, rfl, _, rfl, _, _, rfl, ?_⟩
      refine ⟨b, g, _, rfl, hB1, ?_, ?_, fun H2 r2 b2 hB2 h2 h3 => q H2 r2 (b1.trans b2) hB2 h2 ?_⟩
      · split <;> omega
      · split <;> omega
      · by_cases hm : (7 : Int) < m
        · rw [if_pos hm] at h3; omega
        · rw [if_neg hm] at h3; omega
    · refine ⟨_, rfl, _, rfl, b, g, m, rfl, hB1, h0, h1, fun H2 r2 b2 hB2 h2 h3 => q H2 r2 (b1.trans b2) hB2 h2 h3⟩
theorem scInn : FnScope ["entry"] ["entry"] (defScope sInn) := ⟨rfl, rfl, rfl, by decide +kernel, rfl, by decide +kernel, by decide +kernel⟩
theorem ok_inn {f : Addr} {fd : FuncData} {k : Nat} (F : Fun K "_law_inner" "_law_inner" sInn f fd) : FnOk P w K mg base CX0 (k + 1) f fd ["entry"] spInn := by
  refine F.ok scInn (fun vs H Q E h => ?_) (fun cdv A outer s H vs Q E hr h => ?_)
  · obtain ⟨q, e, rfl, _⟩ := h
    rfl
  · obtain ⟨qa, e, rfl, ⟨p, h1, h2⟩, ⟨m, ok1⟩, q⟩ := h
    refine ⟨_, pss_one (ps_ret (pe_ifExp (pt_cmpR (op_inTD (u65 hr)) (pe_ix ix_tup (pv 0) pe_int (fun _ _ => rfl)) (pe_tup (pa_cons pe_str (pa_cons pe_str (pa_cons pe_str pa_nil)))) (by rfl)) (pe_tup pa_nil) (pe_ix ix_tup (pv 0) pe_int (fun _ _ => rfl)))), ?_⟩
    refine ⟨_, rfl, qa, _, _, _, rfl, rfl, .of h1, rfl, by show 3 ≤ sizeLine; decide, fun t nt => ?_⟩
    have s1 : Same H (upd H t (.tup [.str "name", .str "number", .str "fresh"])) := same_upd nt
    refine ⟨.str e.1, [.str "name", .str "number", .str "fresh"], .str _, .tup (.of upd_same) (.cons (.str _) (.cons (.str _) (.cons (.str _) .nil))), shaped_str (kinds_ok _ ok1.kind), shaped_leaves, _, rfl, ?_⟩
    rw [any_leaf]
    cases hl : leafK e.1 with
    | true =>
      refine iteT ⟨by show 0 ≤ sizeLine; decide, fun t2 nt2 => ?_⟩
      refine q _ t2 (s1.trans (same_upd nt2)) ?_
      rw [upd_same]
      have e0 : inner e = [] := by unfold inner; rw [if_pos hl]
      rw [e0]; rfl
    | false =>
      refine iteF ⟨_, rfl, qa, _, _, _, rfl, rfl, .of (s1 _ _ h1), rfl, q _ p s1 ?_⟩
      rw [s1 _ _ h2, ok1.parts_eq hl]
theorem scIsN : FnScope ["thing", "many"] ["thing", "many"] (defScope sIsN) := ⟨rfl, rfl, rfl, by decide +kernel, rfl, by decide +kernel, by decide +kernel⟩
theorem ok_isN {f : Addr} {fd : FuncData} {k : Nat} (F : Fun K "_law_is_number" "_law_is_number" sIsN f fd) (T : PlTxt mg) : FnOk P w K mg base CX0 (k + 1) f fd ["thing", "many"] spIsN := by
  refine F.ok scIsN (fun vs H Q E h => ?_) (fun cdv A outer s H vs Q E hr h => ?_)
  · obtain ⟨n, v, t, rfl, _⟩ := h
    rfl
  · obtain ⟨n, v, t, rfl, ht, q⟩ := h
    refine ⟨_, pss_one (ps_ret (pe_and (pe_callB call_isTh (by rfl) T.isi (by decide +kernel) (pa_cons (pv 0) (pa_cons (pe_bltn (v := .ty "int") (u := .type "int") (by rfl) T.int_ (by decide +kernel) rfl) pa_nil)))
        (pe_and (pe_not (pe_callB call_isTh (by rfl) T.isi (by decide +kernel) (pa_cons (pv 0) (pa_cons (pe_bltn (v := .ty "bool") (u := .type "bool") (by rfl) T.bool_ (by decide +kernel) rfl) pa_nil))))
        (pe_one (pe_chain op_le op_lt pe_int (pv 0) (pv 1)))))), ?_⟩
    refine ⟨_, rfl, v, "int", t, rfl, ht, by decide, _, rfl, ?_⟩
    cases ht with
    | int i =>
      refine iteT ⟨_, rfl, _, "bool", _, rfl, .int i, by decide, _, rfl, _, rfl, iteT ?_⟩
      refine ⟨_, rfl, _, _, rfl, rfl, _, rfl, ?_⟩
      by_cases h0 : 0 ≤ i
      · rw [decide_eq_true h0]
        refine iteT ⟨_, rfl, _, _, rfl, rfl, ?_⟩
        have e : belowV n (.int i) = decide (i < n) := by simp [belowV, h0]
        rw [e] at q
        exact q
      · rw [decide_eq_false h0]
        have e : belowV n (.int i) = false := by simp [belowV, h0]
        rw [e] at q
        exact iteF q
    | bl b => exact iteT ⟨_, rfl, _, "bool", _, rfl, .bl b, by decide, _, rfl, _, rfl, iteF q⟩
    | non => exact iteF q
    | str x => exact iteF q
    | lst h => exact iteF q
    | tup h => exact iteF q
    | dct h => exact iteF q
end
end L2.My
end
section
set_option Elab.async false
set_option linter.all false
set_option maxRecDepth 100000
set_option maxHeartbeats 4000000
namespace L2.My
open PySem PySem.Spec PyProof.Rows
/-- the law's list of entries -/
def EntsAt (H : Hp) (l : Addr) (es : List Ent) : Prop := ∃ qs : List Addr, H l = some (.lst (qs.map .ref)) ∧ Paired (EntAt H) qs es
theorem EntsAt.get {H : Hp} {l : Addr} {es : List Ent} (h : EntsAt H l es) : ∃ qs : List Addr, H l = some (.lst (qs.map .ref)) ∧ qs.length = es.length ∧ ∀ (i : Nat) (e : Ent), es[i]? = some e → ∃ q, qs[i]? = some q ∧ EntAt H q e := by
  obtain ⟨qs, h1, h2⟩ := h
  have hl := Paired.length h2
  refine ⟨qs, h1, hl, fun i e he => ?_⟩
  obtain ⟨hi, _⟩ := List.getElem?_eq_some_iff.mp he
  have hq : qs[i]? = some qs[i] := List.getElem?_eq_getElem (by omega)
  obtain ⟨e', he', z⟩ := paired_get h2 hq
  rw [he] at he'
  cases he'
  exact ⟨_, hq, z⟩
theorem EntsAt.keep {H H' : Hp} {l : Addr} {es : List Ent} (h : EntsAt H l es) (e : H' l = H l) (st : ∀ b xs, H b = some (.tup xs) → H' b = some (.tup xs)) : EntsAt H' l es := by
  obtain ⟨qs, h1, h2⟩ := h
  exact ⟨qs, e.trans h1, Paired.mapP h2 fun _ _ z => EntAt.keep z st⟩
theorem EntsAt.same {H H' : Hp} {l : Addr} {es : List Ent} (h : EntsAt H l es) (s : Same H H') : EntsAt H' l es := by
  obtain ⟨qs, h1, _⟩ := id h
  exact h.keep (by rw [h1, s _ _ h1]) fun b xs e => s _ _ e
def Wf0 (es : List Ent) : Prop := ∀ (i : Nat) (e : Ent), es[i]? = some e → Ok1 i e
def spWit (K : PySem.W.Frag) : Sp := fun vs H Q _ => ∃ l a es, ∃ ts : List Int, vs = [.ref l, .ref a] ∧ EntsAt H l es ∧ Wf0 es ∧ es.length ≤ 30000 ∧ SeqA H a (ts.map .int) ∧ ts.length ≤ 100000 ∧ (∀ i : Int, i ∈ ts → 0 ≤ i ∧ i < (es.length : Nat)) ∧ ∀ H' D, Told H H' D es ts → Q (.ref D) H'
section
variable {P : Program} {w : World} {K : PySem.W.Frag} {mg : Str → Option Value} {base : Heap}
theorem scWit : FnScope ["entries", "terms", "found", "waiting", "term"] ["entries", "terms"] (defScope sWit) := ⟨rfl, rfl, rfl, by decide +kernel, rfl, by decide +kernel, by decide +kernel⟩
theorem ok_wit {f fI : Addr} {fd fdI : FuncData} {k : Nat} (F : Fun K "_law_within" "_law_within" sWit f fd) (T : PlTxt mg)
    (GI : FnOk P w K mg base CX0 (k + 1) fI fdI ["entry"] spInn) (kI : PySem.W.keepIn K (.ref fI) = true) (gI : mg "_law_inner" = some (.ref fI)) (bI : Binds K fdI ["entry"] []) : FnOk P w K mg base CX0 (k + 2) f fd ["entries", "terms"] (spWit K) := by
  refine F.ok scWit (fun vs H Q E h => ?_) (fun cdv A outer s H1 vs Q E hr h => ?_)
  · obtain ⟨l, a, es, ts, rfl, _⟩ := h
    rfl
  · obtain ⟨el, a, es, ts, rfl, hE, wf, hlen, ha, hl, hb, q⟩ := h
    refine ⟨_, pss_cons (ps_par (i := 2) (j := 3) rfl scWit.nd rfl rfl (by decide) rfl rfl (pa_cons pe_dnewK (pa_cons (pe_callTy call_list_of (by rfl) T.list_ (by decide +kernel) (pa_cons (pv 1) pa_nil)) pa_nil)) rfl)
      (pss_cons (ps_while PassesOwn.never (pt_cmpR op_gt (pe_callB call_len_seq (by rfl) T.len_ PySem.boot_len (pa_cons (pv 3) pa_nil)) pe_int (nomark _))
        (pss_cons (ps_set (i := 4) scWit.nd rfl (Or.inl rfl) (pe_bm0 PySem.F.plainAttrs_list PySem.F.slot_list_pop PySem.F.type_list_pop mt_pop (pv 3)))
        (pss_one (ps_if (pt_cmp (pc_dnotin (u1 hr) (pv 4) (pv 2)) (by rfl))
          (pss_cons (ps_dput (u1 hr) (pv 2) (pv 4) pe_bl rfl)
          (pss_one (ps_expr (pe_bm PySem.F.plainAttrs_list PySem.F.slot_list_extend PySem.F.type_list_extend mt_extT (pv 3) (pa_cons (pe_call GI hr (by rfl) gI kI bI .nil pass0 (pa_cons (pe_ix ix_list (pv 0) (pv 4) (fun _ _ => rfl)) pa_nil)) pa_nil))))) pss_nil))))
      (pss_one (ps_ret (pe_callB (call_sortedDN rfl) (by rfl) T.sorted_ (by decide +kernel) (pa_cons (pv 2) pa_nil))))), ?_⟩
    obtain ⟨qs, hq, hql, hqe⟩ := hE.get
    refine fun D nD => ?_
    have s3 : Same H1 (upd H1 D (.dK [])) := same_upd nD
    refine ⟨_, rfl, a, ts.map .int, rfl, ?_, fun l nl => ⟨_, _, rfl, ?_⟩⟩
    · rcases ha with h | h
      · exact .inl (.of (s3 _ _ h))
      · exact .inr (.of (s3 _ _ h))
    have s4 := same_upd (o := .lst (ts.map V.int)) nl
    have s24 := s3.trans s4
    have nDl : D ≠ l := ne_of_none (upd_same (H := H1)) nl
    have bl4 : BL [D, l] H1 (upd (upd H1 D (.dK [])) l (.lst (ts.map V.int))) := .same s24
    have nD1 : H1 D = none := nD
    have nl1 : H1 l = none := s3.free nl
    have lim : dfsM es.length [] ts ≤ 12130000 := by
      refine Nat.le_trans dfsM_bound ?_
      have := Nat.mul_le_mul_right 401 hlen
      omega
    refine ⟨fun m σ G => ∃ x fs ws, σ = [some (.ref el), some (.ref a), some (.ref D), some (.ref l), x] ∧ DfsI es ts fs ws ∧ BL [D, l] H1 G ∧ G D = some (.dK (fndO fs)) ∧ G l = some (.lst (ws.map .int)) ∧ m = dfsM es.length fs ws ∧ m ≤ 12130000 ∧ fs.length + cntN es.length fs ≤ es.length,
      ⟨dfsM es.length [] ts, none, [], ts, rfl, DfsI.start es ts, bl4, by rw [upd_ne nDl, upd_same]; rfl, by rw [upd_same], rfl, lim, by show 0 + _ ≤ _; rw [Nat.zero_add]; exact cntN_le⟩, ?_⟩
    rintro m σ G ⟨x, fs, ws, rfl, di, bl, gD, gl, rfl, hm, hf⟩
    have nm : ∀ y o, H1 y = some o → y ≠ D ∧ y ≠ l := fun y o e => ⟨ne_of_none e nD1, ne_of_none e nl1⟩
    refine ⟨_, rfl, l, _, rfl, .inl (.of gl), ?_⟩
    refine ⟨_, _, rfl, rfl, _, rfl, ?_⟩
    rw [List.length_map]
    rcases List.eq_nil_or_concat ws with rfl | ⟨wr, t, rfl⟩
    · refine iteF ?_
      refine ⟨_, rfl, D, _, fs, rfl, .inl gD, fnd_keys fs, by rw [fnd_len]; omega, fun ys p hperm hsort np => ?_⟩
      refine q _ p ⟨?_, ?_, ys, upd_same, hsort, hperm.nodup_iff.mpr di.nd, (fun i => by rw [hperm.mem_iff]; exact di.fin i), by rw [hperm.length_eq]; omega⟩
      · intro y o e
        have := nm _ _ e
        have e2 := bl y o (by simp [this.1, this.2]) e
        rw [upd_ne (ne_of_none e2 np)]
        exact e2
      · cases e : H1 p with
        | none => rfl
        | some o =>
          have := nm _ _ e
          rw [bl p o (by simp [this.1, this.2]) e] at np
          cases np
    · rw [List.concat_eq_append] at *
      rw [decide_eq_true (by rw [List.length_append]; simp)]
      refine iteT ⟨fun σ' G' => ∃ m', m' < dfsM es.length fs (wr ++ [t]) ∧ ∃ x fs ws, σ' = [some (.ref el), some (.ref a), some (.ref D), some (.ref l), x] ∧ DfsI es ts fs ws ∧ BL [D, l] H1 G' ∧ G' D = some (.dK (fndO fs)) ∧ G' l = some (.lst (ws.map .int)) ∧ m' = dfsM es.length fs ws ∧ m' ≤ 12130000 ∧ fs.length + cntN es.length fs ≤ es.length, fun _ _ h => h, ?_⟩
      have rt := di.wreach t (by simp)
      have lt := rt.lt wf hb
      obtain ⟨i, rfl⟩ : ∃ i : Nat, t = (i : Nat) := ⟨t.toNat, (Int.toNat_of_nonneg lt.1).symm⟩
      have hi : i < es.length := by omega
      have hge : es[i]? = some es[i] := List.getElem?_eq_getElem hi
      refine ⟨_, rfl, .inl ⟨rfl, _, .of gl⟩, l, _, .int (i : Nat), rfl, rfl, gl, by simp, ?_⟩
      have e1 : ((wr ++ [((i : Nat) : Int)]).map V.int).dropLast = wr.map V.int := by rw [List.map_append]; simp
      rw [e1]
      generalize hG1 : upd G l (.lst (wr.map V.int)) = G1
      have g1l : G1 l = some (.lst (wr.map V.int)) := by rw [← hG1, upd_same]
      have g1D : G1 D = some (.dK (fndO fs)) := by rw [← hG1, upd_ne nDl]; exact gD
      have bl1 : BL [D, l] H1 G1 := by rw [← hG1]; exact bl.trans (.upd (by simp))
      refine ⟨_, rfl, _, rfl, D, _, rfl, .k (k := .inl (i : Nat)) g1D, _, rfl, ?_⟩
      rw [fnd_is]
      by_cases ht : ((i : Nat) : Int) ∈ fs
      · rw [decide_eq_true ht]
        refine iteF ?_
        exact ⟨_, dfsM_old, _, fs, wr, rfl, di.old ht, bl1, g1D, g1l, rfl, Nat.le_trans (Nat.le_of_lt dfsM_old) hm, hf⟩
      · rw [decide_eq_false ht]
        refine iteT ?_
        have big : (13000000 : Nat) ≤ sizeLine := by decide
        refine ⟨_, rfl, _, rfl, D, _, rfl, .k (k := .inl (i : Nat)) (v := .bl true) g1D (by rw [fnd_len]; omega), ?_⟩
        rw [fnd_put ht]
        generalize hG2 : upd G1 D (.dK (fndO (fs ++ [((i : Nat) : Int)]))) = G2
        have g2D : G2 D = some (.dK (fndO (fs ++ [((i : Nat) : Int)]))) := by rw [← hG2, upd_same]
        have g2l : G2 l = some (.lst (wr.map V.int)) := by rw [← hG2, upd_ne nDl.symm]; exact g1l
        have bl2 : BL [D, l] H1 G2 := by rw [← hG2]; exact bl1.trans (.upd (by simp))
        have st2 : ∀ y o, H1 y = some o → G2 y = some o := fun y o e => bl2 y o (by have := nm _ _ e; simp [this.1, this.2]) e
        have lw : wr.length ≤ 12130000 := by
          have : dfsM es.length fs (wr ++ [((i : Nat) : Int)]) ≤ 12130000 := hm
          unfold dfsM at this
          rw [List.length_append, List.length_singleton] at this
          omega
        have li := inner_le (wf i _ hge)
        obtain ⟨qa, hqa, hqe'⟩ := hqe i _ hge
        refine ⟨_, rfl, .inl ⟨rfl, _, .of g2l⟩, _, rfl, _, rfl, el, _, _, _, rfl, rfl, .of (st2 _ _ hq), atI_nat (j := i) (by rw [List.getElem?_map, hqa]; rfl), ?_⟩
        refine ⟨qa, es[i], rfl, hqe'.keep fun b xs e => st2 _ _ e, ⟨_, wf i _ hge⟩, fun G3 q3 s3 hq3 => ?_⟩
        refine ⟨l, q3, _, _, rfl, rfl, s3 _ _ g2l, .of hq3, by rw [List.length_map, List.length_map]; omega, ?_⟩
        have e2 : (wr.map V.int) ++ ((inner es[i]).map V.int) = (wr ++ inner es[i]).map V.int := by rw [List.map_append]
        rw [e2]
        have nl3 : BL [D, l] H1 (upd G3 l (.lst ((wr ++ inner es[i]).map V.int))) := bl2.trans (BL.trans (.same s3) (.upd (by simp)))
        have mlt := dfsM_new (n := es.length) (ws := wr) (us := inner es[i]) lt.1 lt.2 ht li
        have clt := cntN_new (n := es.length) lt.1 lt.2 ht
        refine ⟨_, mlt, _, _, _, rfl, di.new ht (by rw [Int.toNat_natCast]; exact hge), nl3, by rw [upd_ne nDl]; exact s3 _ _ g2D, upd_same, rfl, Nat.le_trans (Nat.le_of_lt mlt) hm, ?_⟩
        rw [List.length_append, List.length_singleton]
        omega
end
end L2.My
end
section
set_option Elab.async false
set_option linter.all false
set_option maxRecDepth 100000
set_option maxHeartbeats 4000000
namespace L2.My
open PySem PySem.Spec PyProof.Rows
abbrev sDue : Stmt := top 31
/-- a list with a tuple in it -/
def DeepAt (H : Hp) (D : Addr) : Prop := ∃ x ys, H D = some (.lst [.ref x]) ∧ H x = some (.tup ys)
def spDeep : Sp := fun vs H Q _ => vs = [] ∧ ∀ H' D, Same H H' → H D = none → DeepAt H' D → Q (.ref D) H'
def wordD : DueR → Str
  | .kind => "kind"
  | .parts => "parts"
  | .lets _ => "let"
def spDue : Sp := fun vs H Q _ => ∃ l es kv pv d, vs = [.ref l, kv, pv] ∧ EntsAt H l es ∧ es.length ≤ 1000 ∧ Due H es.length kv pv d ∧ ∀ H', Same H H' → Q (.str (wordD d)) H'
section
variable {P : Program} {w : World} {K : PySem.W.Frag} {mg : Str → Option Value} {base : Heap}
theorem scDeep : FnScope ["thing", "turn"] [] (defScope sDeep) := ⟨rfl, rfl, rfl, by decide +kernel, rfl, by decide +kernel, by decide +kernel⟩
theorem ok_deep {f : Addr} {fd : FuncData} {k : Nat} (F : Fun K "_law_deep" "_law_deep" sDeep f fd) (T : PlTxt mg) (mr : mg "range" = none) : FnOk P w K mg base CX0 (k + 1) f fd [] spDeep := by
  refine F.ok scDeep (fun vs H Q E h => ?_) (fun cdv A outer s H vs Q E hr h => ?_)
  · obtain ⟨rfl, _⟩ := h
    rfl
  · obtain ⟨rfl, q⟩ := h
    refine ⟨_, pss_cons (ps_set (i := 0) scDeep.nd rfl (Or.inl rfl) (pe_tup pa_nil))
      (pss_cons (ps_for PassesOwn.never rfl (pi_range1 (by rfl) mr (pa_cons pe_int pa_nil)) (pg_name (i := 1) scDeep.nd rfl (Or.inl rfl))
        (pss_one (ps_set (i := 0) scDeep.nd rfl (Or.inl rfl) (pe_ifExp (pt_cmpR op_eq (pe_op op_mod (pe_callTy call_int1 (by rfl) T.int_ (by decide +kernel) (pa_cons (pv 1) pa_nil)) pe_int) pe_int (nomark _))
          (pe_tup (pa_cons (pv 0) pa_nil)) (pe_lst (pa_cons (pv 0) pa_nil))))))
      (pss_one (ps_ret (pv 0)))), ?_⟩
    refine ⟨by show 0 ≤ sizeLine; decide, fun p0 np0 => ?_⟩
    refine ⟨_, rfl, by decide, by decide, ?_⟩
    refine for_it (walk_range (lo := 0) (n := 30)) (fun i σ G => ∃ p x, σ = [some (.ref p), x] ∧ Same H G ∧ H p = none ∧ (i % 2 = 1 ∨ i = 0 → ∃ ys, G p = some (.tup ys)) ∧ (i % 2 = 0 → i ≠ 0 → DeepAt G p))
      ⟨p0, none, rfl, same_upd np0, np0, fun _ => ⟨[], upd_same⟩, fun _ h => absurd rfl h⟩ (fun _ _ _ _ _ => trivial) ?_ ?_
    · rintro i y σ G G' hi ⟨p, x, rfl, sm, np, h1, h2⟩ ⟨rfl, rfl⟩
      refine ⟨_, rfl, .inl ⟨_, rfl, _, _, rfl, rfl, (by show (0 : Int) < 2; decide), rfl, _, rfl, ?_⟩⟩
      rw [dec_int]
      by_cases hp : i % 2 = 0
      · have e : ((0 + (i : Nat) : Int) % 2 == 0) = true := by simp; omega
        rw [e]
        refine iteT ⟨_, rfl, by show 1 ≤ sizeLine; decide, fun t nt => ?_⟩
        exact ⟨t, _, rfl, sm.trans (same_upd nt), sm.free nt, fun _ => ⟨_, upd_same⟩, fun h => by omega⟩
      · have e : ((0 + (i : Nat) : Int) % 2 == 0) = false := by simp; omega
        rw [e]
        refine iteF ⟨_, rfl, by show 1 ≤ sizeLine; decide, fun t nt => ?_⟩
        obtain ⟨ys, hy⟩ := h1 (.inl (by omega))
        exact ⟨t, _, rfl, sm.trans (same_upd nt), sm.free nt, fun h => by omega, fun _ _ => ⟨p, ys, upd_same, same_upd nt _ _ hy⟩⟩
    · rintro σ G ⟨p, x, rfl, sm, np, h1, h2⟩
      exact ⟨_, rfl, q G p sm np (h2 rfl (by decide))⟩
end
end L2.My
end
section
set_option Elab.async false
set_option linter.all false
set_option maxRecDepth 100000
set_option maxHeartbeats 4000000
namespace L2.My
open PySem PySem.Spec PyProof.Rows
def sizD : List (Key × V) := [(.inr "made", .int 2), (.inr "lock", .int 1), (.inr "box", .int 2), (.inr "chest", .int 2), (.inr "mark", .int 2), (.inr "print", .int 1)]
def rLen (K : PySem.W.Frag) : List V → Hp → VK → Prop := fun xs H Q => ∃ p ys, xs = [.ref p] ∧ (SqL K H p ys ∨ SqT K H p ys) ∧ Q (.int ys.length) H
theorem siz_none : valV sizD (.inr "name") = none ∧ valV sizD (.inr "number") = none := by decide +kernel
theorem siz_some : ∀ p ∈ sizesK, valV sizD (.inr p.1) = some (.int (p.2 : Nat)) := by decide +kernel
theorem siz_le : ∀ p ∈ sizesK, p.2 ≤ 2 := by decide +kernel
theorem siz_merge : mergeK [] sizD = sizD := by decide +kernel
theorem Due.split {H : Hp} {n : Nat} {kv pv : V} {d : DueR} (h : Due H n kv pv d) : ((∃ t, ThT H kv t ∧ ∀ z, kv = .str z → PyData.strOk z = true ∧ z ∉ putK9) ∧ wordD d = "kind") ∨ ∃ z c, kv = .str z ∧ z ∈ putK9 ∧ fitsV H n z pv c ∧ wordD d = (if c = true then "let" else "parts") := by
  cases h with
  | kind ht hk => exact .inl ⟨⟨_, ht, hk⟩, rfl⟩
  | parts hz hf => exact .inr ⟨_, false, rfl, hz, hf, rfl⟩
  | lets hz ha hp hf => exact .inr ⟨_, true, rfl, hz, .inl ⟨_, _, rfl, ha, hp, hf.symm⟩, rfl⟩
theorem shaped_put9 : SeqAt.shaped (.list (putK9.map .str)) = true := by decide +kernel
theorem strV (x y : Str) : decide (V.str x = V.str y) = decide (x = y) := by
  by_cases hz : x = y
  · rw [decide_eq_true hz, hz]; simp
  · rw [decide_eq_false hz]; simp [hz]
theorem natV (i j : Nat) : decide (V.int (i : Nat) = V.int (j : Nat)) = decide (i = j) := by
  rw [dec_int]
  by_cases hj : i = j
  · rw [decide_eq_true hj, hj]; simp
  · rw [decide_eq_false hj]; simp; omega
section
variable {P : Program} {w : World} {K : PySem.W.Frag} {mg : Str → Option Value} {base : Heap}
theorem scDue : FnScope ["entries", "kind", "parts", "sizes", "part"] ["entries", "kind", "parts"] (defScope sDue) := ⟨rfl, rfl, rfl, by decide +kernel, rfl, by decide +kernel, by decide +kernel⟩
theorem ok_due {f fN : Addr} {fd fdN : FuncData} {k : Nat} (F : Fun K "_law_due" "_law_due" sDue f fd) (T : PlTxt mg)
    (GN : FnOk P w K mg base CX0 (k + 1) fN fdN ["thing", "many"] spIsN) (kN : PySem.W.keepIn K (.ref fN) = true) (gN : mg "_law_is_number" = some (.ref fN)) (bN : Binds K fdN ["thing", "many"] []) : FnOk P w K mg base CX0 (k + 2) f fd ["entries", "kind", "parts"] spDue := by
  refine F.ok scDue (fun vs H Q E h => ?_) (fun cdv A outer s H vs Q E hr h => ?_)
  · obtain ⟨l, es, kv, pvv, d, rfl, _⟩ := h
    rfl
  · obtain ⟨l, es, kv, pvv, d, rfl, hE, hlen, hd, q⟩ := h
    refine ⟨_, pss_cons (ps_set (i := 3) scDue.nd rfl (Or.inl rfl) (pe_disp (pps_cons pe_str pe_int (pps_cons pe_str pe_int (pps_cons pe_str pe_int (pps_cons pe_str pe_int (pps_cons pe_str pe_int (pps_cons pe_str pe_int pps_nil)))))) rfl rfl (by decide) (by decide)))
      (pss_cons (ps_if (pt_or (pt_not (pt_val (pe_callB call_isTh (by rfl) T.isi (by decide +kernel) (pa_cons (pv 1) (pa_cons (pe_bltn (v := .ty "str") (u := .type "str") (by rfl) T.str_ (by decide +kernel) rfl) pa_nil)))))
          (pw_or1 (pt_cmpR (op_notInD (u65 hr)) (pv 1) (pe_op op_cat (pe_lst (pa_cons pe_str (pa_cons pe_str (pa_cons pe_str pa_nil)))) (pe_callTy (call_listD rfl) (by rfl) T.list_ (by decide +kernel) (pa_cons (pv 3) pa_nil))) (by rfl)))) (pss_one (ps_ret pe_str)) pss_nil)
      (pss_cons (ps_if (pt_or (pt_not (pt_val (pe_callB call_isTh (by rfl) T.isi (by decide +kernel) (pa_cons (pv 2) (pa_cons (pe_bltn (v := .ty "tuple") (u := .type "tuple") (by rfl) T.tuple_ (by decide +kernel) rfl) pa_nil)))))
          (pw_or1 (pt_and (pt_cmpR op_ne (pv 1) pe_str (nomark _)) (pw_and1 (pt_cmpR op_ne (pe_callB call_len_seq (by rfl) T.len_ PySem.boot_len (pa_cons (pv 2) pa_nil)) (pe_dget2 (u1 hr) (pv 3) (pv 1) pe_int ⟨rfl, rfl, rfl, rfl⟩) (nomark _)))))) (pss_one (ps_ret pe_str)) pss_nil)
      (pss_cons (ps_if (pt_cmpR op_eq (pv 1) pe_str (nomark _)) (pss_one (ps_ret (pe_ifExp (pt_and (pt_val (pe_callB call_isTh (by rfl) T.isi (by decide +kernel) (pa_cons (pe_ix ix_tup (pv 2) pe_int (fun _ _ => rfl)) (pa_cons (pe_bltn (v := .ty "str") (u := .type "str") (by rfl) T.str_ (by decide +kernel) rfl) pa_nil))))
          (pw_and1 (pt_cmpR op_le (pe_callB call_len_str (by rfl) T.len_ PySem.boot_len (pa_cons (pe_ix ix_tup (pv 2) pe_int (fun _ _ => rfl)) pa_nil)) pe_int (nomark _)))) pe_str pe_str))) pss_nil)
      (pss_cons (ps_if (pt_cmpR op_eq (pv 1) pe_str (nomark _)) (pss_one (ps_ret (pe_ifExp (pt_val (pe_call GN hr (by rfl) gN kN bN .nil pass0 (pa_cons (pe_ix ix_tup (pv 2) pe_int (fun _ _ => rfl)) (pa_cons (pe_op op_pow pe_int pe_int) pa_nil)))) pe_str pe_str))) pss_nil)
      (pss_cons (ps_if (pt_or (pt_cmpR op_gt (pe_callB call_len_seq (by rfl) T.len_ PySem.boot_len (pa_cons (pv 2) pa_nil)) pe_int (nomark _))
          (pw_or1 (pt_not (pt_val (pe_callB (cr_all rfl) (by rfl) T.all_ (by decide +kernel) (pa_cons (pe_lc (te := tCall spIsN [] E0 (tCons (tVar 4) (tCons (tCB (rLen K) (tCons (tVar 0) tNil)) tNil))) (own := [("part", 4)]) (g := gName 4) rfl scDue.nd (pi_tup (pv 2))
            (blkOk_by (N := ["entries", "kind", "parts", "sizes", "part"]) (sc := defScope sDue) (by decide +kernel)) (fun _ _ _ _ _ => pg_name (i := 4) scDue.nd rfl (Or.inl rfl)) (fun _ _ _ _ _ => pts_nil)
            (fun _ _ _ _ _ => pe_call GN hr (by rfl) gN kN bN .nil pass0 (pa_cons (pv 4) (pa_cons (pe_callB call_len_seq (by rfl) T.len_ PySem.boot_len (pa_cons (pv 0) pa_nil)) pa_nil)))) pa_nil)))))) (pss_one (ps_ret pe_str)) pss_nil)
      (pss_one (ps_ret pe_str))))))), ?_⟩
    obtain ⟨qs, hqs, hql, _⟩ := hE.get
    refine fun D nD => ⟨upd_same, sizD, rfl, by decide, ?_⟩
    rw [upd_upd, siz_merge]
    generalize hG : upd H D (.dK sizD) = G
    have sG : Same H G := by rw [← hG]; exact same_upd nD
    have gD : G D = some (.dK sizD) := by rw [← hG, upd_same]
    rcases hd.split with ⟨⟨t, ht, hk⟩, hw⟩ | ⟨z, c, rfl, hz, hfv, hw⟩
    · rw [hw] at q
      refine ⟨_, rfl, kv, "str", t, rfl, ht.keep sG, by decide, _, rfl, ?_⟩
      cases ht with
      | str x =>
        obtain ⟨so, hn⟩ := hk x rfl
        refine iteF ⟨_, rfl, by show 3 ≤ sizeLine; decide, fun l1 n1 => ?_⟩
        have s1 := same_upd (o := .lst [.str "name", .str "number", .str "row"]) n1
        refine ⟨_, rfl, D, sizD, rfl, .inl (s1 _ _ gD), fun l2 n2 => ?_⟩
        have s2 := same_upd (o := .lst (sizD.map fun kv => kV kv.1)) n2
        refine ⟨l1, l2, _, _, rfl, rfl, s2 _ _ upd_same, upd_same, by decide, fun l3 n3 => ?_⟩
        have s3 := same_upd (o := .lst (putK9.map .str)) n3
        refine ⟨.str x, putK9.map .str, .str x, .lst (.of (show _ = some (.lst (putK9.map .str)) from upd_same)) (dp_strs _), shaped_str so, shaped_put9, _, rfl, ?_⟩
        rw [any_strs, decide_eq_false hn]
        exact iteT (q _ (sG.trans (s1.trans (s2.trans s3))))
      | int i => exact iteT (iteT (q G sG))
      | bl b => exact iteT (iteT (q G sG))
      | non => exact iteT (iteT (q G sG))
      | lst h => exact iteT (iteT (q G sG))
      | tup h => exact iteT (iteT (q G sG))
      | dct h => exact iteT (iteT (q G sG))
    · rw [hw] at q
      have so : PyData.strOk z = true := (show ∀ z ∈ putK9, PyData.strOk z = true by decide +kernel) z hz
      refine ⟨_, rfl, .str z, "str", "str", rfl, .str z, by decide, _, rfl, ?_⟩
      refine iteF ⟨_, rfl, by show 3 ≤ sizeLine; decide, fun l1 n1 => ?_⟩
      have s1 := same_upd (o := .lst [.str "name", .str "number", .str "row"]) n1
      refine ⟨_, rfl, D, sizD, rfl, .inl (s1 _ _ gD), fun l2 n2 => ?_⟩
      have s2 := same_upd (o := .lst (sizD.map fun kv => kV kv.1)) n2
      refine ⟨l1, l2, _, _, rfl, rfl, s2 _ _ upd_same, upd_same, by decide, fun l3 n3 => ?_⟩
      have s3 := same_upd (o := .lst ([.str "name", .str "number", .str "row"] ++ sizD.map fun kv => kV kv.1)) n3
      refine ⟨.str z, putK9.map .str, .str z, .lst (.of (show _ = some (.lst (putK9.map .str)) from upd_same)) (dp_strs _), shaped_str so, shaped_put9, _, rfl, ?_⟩
      rw [any_strs, decide_eq_true hz]
      refine iteF ?_
      have s13 := s1.trans (s2.trans s3)
      have sH := sG.trans s13
      have gD3 := s13 _ _ gD
      revert sH gD3
      generalize upd (upd (upd G l1 (.lst [.str "name", .str "number", .str "row"])) l2 (.lst (sizD.map fun kv => kV kv.1))) l3 (.lst ([.str "name", .str "number", .str "row"] ++ sizD.map fun kv => kV kv.1)) = G3
      intro sH gD3
      rcases hfv with ⟨a, xs, rfl, ha, hp, hc⟩ | ⟨t, ht, hne, rfl⟩
      · refine ⟨_, rfl, .ref a, "tuple", "tuple", rfl, .tup (sH _ _ ha), by decide, _, rfl, iteF ?_⟩
        have sq : SqT K G3 a xs := .of (sH _ _ ha)
        have lt : xs.length ≤ 100000 := Nat.le_trans hp.len (by decide)
        -- the last two tests
        have last : (z = "row" ∨ ∃ m, (z, m) ∈ sizesK ∧ xs.length = m) → c = (decide (xs.length ≤ 400) && xs.all (belowV (es.length : Nat))) := by
          intro h
          rw [hc]
          unfold fitsT
          rcases h with rfl | ⟨m, hm, rfl⟩
          · rw [if_neg (by decide +kernel), if_neg (by decide +kernel), if_pos rfl]
          · have n1 : ∀ p ∈ sizesK, p.1 ≠ ("name" : Str) ∧ p.1 ≠ ("number" : Str) ∧ p.1 ≠ ("row" : Str) := by decide +kernel
            obtain ⟨h1, h2, h3⟩ := n1 _ hm
            have := siz_le _ hm
            rw [if_neg h1, if_neg h2, if_neg h3, decide_eq_true hm, decide_eq_true (show xs.length ≤ 400 by omega)]
        have len1 : ∀ G4, Same H G4 → SqT K G4 a xs := fun G4 s => .of (s _ _ ha)
        have one : xs.length = 1 → ∃ x t, xs = [x] ∧ ThT H x t ∧ ∀ y, x = .str y → y.length ≤ 1000 ∧ y.cps.toList.all goodC = true := fun h1 => by
          match xs, h1 with
          | [x], _ =>
            obtain ⟨t, ht⟩ := hp.ty x (by simp)
            exact ⟨x, t, rfl, ht, hp.str x (by simp)⟩
        refine ⟨_, rfl, rfl, _, rfl, ?_⟩
        rw [strV]
        by_cases e3 : z = "row"
        · subst e3
          refine iteF (iteF ?_)
          refine ⟨_, rfl, rfl, _, rfl, ?_⟩
          rw [strV]
          refine iteF ⟨_, rfl, rfl, _, rfl, ?_⟩
          rw [strV]
          refine iteF ?_
          have lst := last (.inl rfl)
          refine ⟨_, rfl, a, xs, rfl, .inr sq, ?_⟩
          refine ⟨_, _, rfl, rfl, _, rfl, ?_⟩
          by_cases h400 : xs.length ≤ 400
          · rw [decide_eq_false (show ¬ (400 : Int) < (xs.length : Nat) by omega)]
            rw [decide_eq_true h400, Bool.true_and] at lst
            refine iteF ⟨_, rfl, a, rfl, ⟨xs, sq⟩, fun D2 hD2 => ?_⟩
            refine lcP walk_tup (fun i => V.bl (belowV (es.length : Nat) (xs.getD i .non))) (Nat.lt_of_le_of_lt lt (by decide)) hD2 (fun _ sm => seqT sm sq) ?_ ?_
            · rintro i y H1 H2 Q' hi sm ⟨rfl, hy⟩ hq
              obtain ⟨t, ht⟩ := hp.ty y (List.mem_of_getElem? hy)
              refine ⟨rfl, _, rfl, _, rfl, l, qs.map .ref, rfl, .inl (.of (sm _ _ (sH _ _ hqs))), ?_⟩
              refine ⟨_, y, t, rfl, (ht.keep sH).keep sm, ?_⟩
              rw [List.length_map, hql]
              have e : xs.getD i .non = y := by rw [List.getD_eq_getElem?_getD, hy]; rfl
              rw [e] at hq
              exact hq _ (Same.refl _)
            · intro H' sm hd
              refine ⟨D2, (List.range xs.length).map fun i => belowV (es.length : Nat) (xs.getD i .non), rfl, .inl (.inl (by rw [hd, List.map_map]; rfl)), _, rfl, ?_⟩
              rw [all_range, ← lst]
              cases c with
              | true => exact iteF (q _ (sH.trans sm))
              | false => exact iteT (q _ (sH.trans sm))
          · rw [decide_eq_true (show (400 : Int) < (xs.length : Nat) by omega)]
            rw [decide_eq_false h400, Bool.false_and] at lst
            rw [lst] at q
            exact iteT (q _ sH)
        · rw [decide_eq_false e3]
          refine iteT ⟨_, rfl, a, xs, rfl, .inr sq, _, rfl, D, rfl, .inl ⟨_, .inl gD3⟩, _, rfl, ?_⟩
          refine ⟨valV sizD (.inr z), .k (k := .inr z) gD3, ?_⟩
          rcases putK9_mem hz with rfl | rfl | h | ⟨n1, n2, _, m, hm, hu⟩
          · rw [siz_none.1]
            refine ⟨rfl, _, rfl, ?_⟩
            rw [show (none : Option V).getD (.int 1) = V.int ((1 : Nat) : Int) from rfl, natV]
            by_cases h1 : xs.length = 1
            · rw [decide_eq_true h1]
              refine iteF ?_
              obtain ⟨x, t, rfl, hx, hg⟩ := one h1
              refine ⟨_, rfl, rfl, _, rfl, ?_⟩
              rw [strV]
              refine iteT ?_
              have hcx : c = nameV x := by rw [hc]; rfl
              refine ⟨_, rfl, a, _, _, x, rfl, rfl, sq, rfl, ?_⟩
              refine ⟨x, "str", t, rfl, hx.keep sH, by decide, _, rfl, ?_⟩
              cases hx with
              | str y =>
                obtain ⟨g1, g2⟩ := hg y rfl
                refine iteT ⟨_, rfl, a, _, _, .str y, rfl, rfl, sq, rfl, y, rfl, Nat.le_trans g1 (by decide), ?_⟩
                refine ⟨_, _, rfl, rfl, _, rfl, ?_⟩
                have e : nameV (.str y) = decide (y.length ≤ 40) := by
                  show (decide (y.length ≤ 40) && y.cps.toList.all goodC) = _
                  rw [g2, Bool.and_true]
                rw [hcx, e] at q
                by_cases h40 : y.length ≤ 40
                · rw [decide_eq_true h40] at q
                  rw [decide_eq_true (show ((y.length : Nat) : Int) ≤ 40 by omega)]
                  exact iteT (q _ sH)
                · rw [decide_eq_false h40] at q
                  rw [decide_eq_false (show ¬ ((y.length : Nat) : Int) ≤ 40 by omega)]
                  exact iteF (q _ sH)
              | int i => rw [hcx] at q; exact iteF (iteF (q _ sH))
              | bl b => rw [hcx] at q; exact iteF (iteF (q _ sH))
              | non => rw [hcx] at q; exact iteF (iteF (q _ sH))
              | lst h => rw [hcx] at q; exact iteF (iteF (q _ sH))
              | tup h => rw [hcx] at q; exact iteF (iteF (q _ sH))
              | dct h => rw [hcx] at q; exact iteF (iteF (q _ sH))
            · rw [decide_eq_false h1]
              have hc2 : c = false := by rw [hc]; unfold fitsT; rw [if_pos rfl, one1_ne h1]
              rw [hc2] at q
              exact iteT (q _ sH)
          · rw [siz_none.2]
            refine ⟨rfl, _, rfl, ?_⟩
            rw [show (none : Option V).getD (.int 1) = V.int ((1 : Nat) : Int) from rfl, natV]
            by_cases h1 : xs.length = 1
            · rw [decide_eq_true h1]
              refine iteF ?_
              obtain ⟨x, t, rfl, hx, hg⟩ := one h1
              refine ⟨_, rfl, rfl, _, rfl, ?_⟩
              rw [strV]
              refine iteF ⟨_, rfl, rfl, _, rfl, ?_⟩
              rw [strV]
              refine iteT ?_
              have hcx : c = belowV 1000000000000 x := by rw [hc]; rfl
              refine ⟨_, rfl, a, _, _, x, rfl, rfl, sq, rfl, ?_⟩
              refine ⟨_, _, rfl, rfl, ⟨by decide, by decide, by decide⟩, ?_⟩
              refine ⟨_, x, t, rfl, hx.keep sH, _, rfl, ?_⟩
              rw [show ((10 : Int) ^ (12 : Int).toNat) = 1000000000000 from by decide]
              rw [hcx] at q
              cases hb : belowV 1000000000000 x with
              | true => rw [hb] at q; exact iteT (q _ sH)
              | false => rw [hb] at q; exact iteF (q _ sH)
            · rw [decide_eq_false h1]
              have hc2 : c = false := by rw [hc]; unfold fitsT; rw [if_neg (by decide +kernel), if_pos rfl, one1_ne h1]
              rw [hc2] at q
              exact iteT (q _ sH)
          · exact absurd h e3
          · rw [siz_some _ hm]
            refine ⟨rfl, _, rfl, ?_⟩
            rw [show (some (V.int ((z, m).2 : Nat)) : Option V).getD (.int 1) = V.int ((m : Nat) : Int) from rfl, natV]
            by_cases h1 : xs.length = m
            · rw [decide_eq_true h1]
              refine iteF ?_
              refine ⟨_, rfl, rfl, _, rfl, ?_⟩
              rw [strV, decide_eq_false n1]
              refine iteF ⟨_, rfl, rfl, _, rfl, ?_⟩
              rw [strV, decide_eq_false n2]
              refine iteF ?_
              have lst := last (.inr ⟨m, hm, h1⟩)
              refine ⟨_, rfl, a, xs, rfl, .inr sq, ?_⟩
              refine ⟨_, _, rfl, rfl, _, rfl, ?_⟩
              by_cases h400 : xs.length ≤ 400
              · rw [decide_eq_false (show ¬ (400 : Int) < (xs.length : Nat) by omega)]
                rw [decide_eq_true h400, Bool.true_and] at lst
                refine iteF ⟨_, rfl, a, rfl, ⟨xs, sq⟩, fun D2 hD2 => ?_⟩
                refine lcP walk_tup (fun i => V.bl (belowV (es.length : Nat) (xs.getD i .non))) (Nat.lt_of_le_of_lt lt (by decide)) hD2 (fun _ sm => seqT sm sq) ?_ ?_
                · rintro i y H1 H2 Q' hi sm ⟨rfl, hy⟩ hq
                  obtain ⟨t, ht⟩ := hp.ty y (List.mem_of_getElem? hy)
                  refine ⟨rfl, _, rfl, _, rfl, l, qs.map .ref, rfl, .inl (.of (sm _ _ (sH _ _ hqs))), ?_⟩
                  refine ⟨_, y, t, rfl, (ht.keep sH).keep sm, ?_⟩
                  rw [List.length_map, hql]
                  have e : xs.getD i .non = y := by rw [List.getD_eq_getElem?_getD, hy]; rfl
                  rw [e] at hq
                  exact hq _ (Same.refl _)
                · intro H' sm hd
                  refine ⟨D2, (List.range xs.length).map fun i => belowV (es.length : Nat) (xs.getD i .non), rfl, .inl (.inl (by rw [hd, List.map_map]; rfl)), _, rfl, ?_⟩
                  rw [all_range, ← lst]
                  cases c with
                  | true => exact iteF (q _ (sH.trans sm))
                  | false => exact iteT (q _ (sH.trans sm))
              · rw [decide_eq_true (show (400 : Int) < (xs.length : Nat) by omega)]
                rw [decide_eq_false h400, Bool.false_and] at lst
                rw [lst] at q
                exact iteT (q _ sH)
            · rw [decide_eq_false h1]
              have hc2 : c = false := by
                rw [hc]; unfold fitsT
                rw [if_neg n1, if_neg n2, if_neg e3, decide_eq_false (fun y => h1 (hu _ y)), Bool.false_and]
              rw [hc2] at q
              exact iteT (q _ sH)
      · refine ⟨_, rfl, pvv, "tuple", t, rfl, ht.keep sH, by decide, _, rfl, ?_⟩
        have e : instT t "tuple" = false := by
          cases ht <;> first | rfl | exact absurd rfl hne
        rw [e]
        exact iteT (iteT (q _ sH))
end
end L2.My
end
section
set_option Elab.async false
set_option linter.all false
set_option maxRecDepth 100000
set_option maxHeartbeats 4000000
namespace L2.My
open PySem PySem.Spec PyProof.Rows
abbrev sEnt : Stmt := top 23
/-- a drawn entry -/
def DrawnE (es : List Ent) (e : Ent) : Prop := e = freshE es ∨ (Ok1 es.length e ∧ e.1 ∈ putK9)
def spEnt : Sp := fun vs H Q _ => ∃ b g l es, vs = [.ref b, .ref l] ∧ BagAt H b g ∧ EntsAt H l es ∧ es.length ≤ 1000 ∧ l ≠ b ∧ l ≠ g ∧ ∀ H' q e, BS b g H H' → BagAt H' b g → EntAt H' q e → DrawnE es e → Q (.ref q) H'
theorem BagAt.notup {b g : Addr} {H : Hp} (h : BagAt H b g) {p : Addr} {xs : List V} (e : H p = some (.tup xs)) : p ≠ b ∧ p ≠ g := by
  obtain ⟨ne, ns, sd, n, c, h1, h2, h3⟩ := h
  exact ⟨fun z => (by rw [z, h1] at e; cases e), fun z => (by rw [z, h2] at e; cases e)⟩
theorem EntsAt.bs {H H' : Hp} {b g l : Addr} {es : List Ent} (h : EntsAt H l es) (hB : BagAt H b g) (s : BS b g H H') (h1 : l ≠ b) (h2 : l ≠ g) : EntsAt H' l es := by
  obtain ⟨qs, e, _⟩ := id h
  exact h.keep (by rw [e, s.1 _ _ h1 h2 e]) fun p xs e => let ⟨a, b⟩ := hB.notup e; s.1 _ _ a b e
structure LfTxt (P : Program) (w : World) (K : PySem.W.Frag) (mg : Str → Option Value) (base : Heap) (k : Nat) where
  T : PlTxt mg
  mr : mg "range" = none
  mm : mg "min" = none
  fP : Addr
  fdP : FuncData
  GP : FnOk P w K mg base CX0 (k + 1) fP fdP ["bag", "many"] spPick
  kP : PySem.W.keepIn K (.ref fP) = true
  gP : mg "_law_pick" = some (.ref fP)
  bP : Binds K fdP ["bag", "many"] []
  fS : Addr
  fdS : FuncData
  GS : FnOk P w K mg base CX0 (k + 2) fS fdS ["bag", "things"] (spSome K)
  kS : PySem.W.keepIn K (.ref fS) = true
  gS : mg "_law_some" = some (.ref fS)
  bS : Binds K fdS ["bag", "things"] []
  fA : Addr
  fdA : FuncData
  GA : FnOk P w K mg base CX0 (k + 2) fA fdA ["bag", "many"] spAny
  kA : PySem.W.keepIn K (.ref fA) = true
  gA : mg "_law_any" = some (.ref fA)
  bA : Binds K fdA ["bag", "many"] []
  fO : Addr
  fdO : FuncData
  GO : FnOk P w K mg base CX0 (k + 2) fO fdO ["bag", "many"] spAny
  kO : PySem.W.keepIn K (.ref fO) = true
  gO : mg "_law_old" = some (.ref fO)
  bO : Binds K fdO ["bag", "many"] []
theorem kV_ints (is : List Int) : (is.map (Sum.inl (β := Str))).map kV = is.map V.int := by rw [List.map_map]; rfl
/-- a new pair of a kind and new parts -/
theorem mkE {b g p p2 : Addr} {H G : Hp} {k : Str} {ks : List Key} {xs : List V} (e : xs = ks.map kV) (s : BS b g H G) (hB : BagAt G b g) (np : G p = none) (np2 : (upd G p (.tup xs)) p2 = none) :
    BS b g H (upd (upd G p (.tup xs)) p2 (.tup [.str k, .ref p])) ∧ BagAt (upd (upd G p (.tup xs)) p2 (.tup [.str k, .ref p])) b g ∧ EntAt (upd (upd G p (.tup xs)) p2 (.tup [.str k, .ref p])) p2 (k, ks) := by
  have s1 := same_upd (o := .tup xs) np
  have s2 := same_upd (o := .tup [.str k, .ref p]) np2
  have s12 := s1.trans s2
  subst e
  exact ⟨s.trans (.same s12), hB.same s12, p, upd_same, s2 _ _ upd_same⟩
theorem intV (i j : Int) : decide (V.int i = V.int j) = decide (i = j) := by
  by_cases h : i = j
  · rw [decide_eq_true h, h]; simp
  · rw [decide_eq_false h]; simp [h]
/-- a number of an elder one -/
def PvI (n : Nat) (v : V) : Prop := ∃ i : Int, v = .int i ∧ 0 ≤ i ∧ i < (n : Nat)
theorem ints_pv {n : Nat} : ∀ {xs : List V}, (∀ v ∈ xs, PvI n v) → ∃ is : List Int, xs = is.map .int ∧ ∀ i ∈ is, 0 ≤ i ∧ i < (n : Nat)
  | [], _ => ⟨[], rfl, fun i h => nomatch h⟩
  | v :: r, h => by
    obtain ⟨is, rfl, hi⟩ := ints_pv (xs := r) fun v hv => h v (List.mem_cons_of_mem _ hv)
    obtain ⟨i, rfl, h0⟩ := h v List.mem_cons_self
    exact ⟨i :: is, rfl, fun j hj => by
      rcases List.mem_cons.mp hj with rfl | hj
      · exact h0
      · exact hi j hj⟩
def isFr (es : List Ent) (i : Nat) : Bool := decide ((es.getD i ("", [])).1 = ("fresh" : Str))
theorem cnt_range (es : List Ent) (f : Nat → V) : ((List.range es.length).filterMap fun i => if isFr es i = true then some (f i) else none).length = cntF es := by
  rw [List.length_filterMap_eq_countP]
  have e : es = (List.range es.length).map fun i => es.getD i ("", []) := by
    apply List.ext_getElem
    · rw [List.length_map, List.length_range]
    · intro i h1 h2
      rw [List.getElem_map, List.getElem_range, List.getD_eq_getElem?_getD, List.getElem?_eq_getElem h1]
      rfl
  unfold cntF
  conv => rhs; rw [e]
  rw [List.countP_map]
  congr 1
  funext i
  show (if isFr es i = true then some (f i) else none).isSome = isFr es i
  cases isFr es i <;> rfl
section
variable {P : Program} {w : World} {K : PySem.W.Frag} {mg : Str → Option Value} {base : Heap}
theorem scEnt : FnScope ["bag", "found", "way", "parts", "locks", "one", "turn", "at"] ["bag", "found"] (defScope sEnt) := ⟨rfl, rfl, rfl, by decide +kernel, rfl, by decide +kernel, by decide +kernel⟩
abbrev nEnt : List Str := ["bag", "found", "way", "parts", "locks", "one", "turn", "at"]
theorem ok_ent {f : Addr} {fd : FuncData} {k : Nat} (F : Fun K "_law_entry" "_law_entry" sEnt f fd) (L : LfTxt P w K mg base k) : FnOk P w K mg base CX0 (k + 3) f fd ["bag", "found"] spEnt := by
  refine F.ok scEnt (fun vs H Q E h => ?_) (fun cdv A outer s H vs Q E hr h => ?_)
  · obtain ⟨b, g, l, es, rfl, _⟩ := h
    rfl
  · obtain ⟨b, g, l, es, rfl, hB, hE, hlen, lb, lg, q⟩ := h
    have hr1 := hr.mono (show k + 1 ≤ k + 2 by omega)
    have T := L.T
    refine ⟨_, pss_cons (ps_set (i := 2) scEnt.nd rfl (Or.inl rfl) (pe_call L.GP hr1 (by rfl) L.gP L.kP L.bP .nil pass0 (pa_cons (pv 0) (pa_cons pe_int pa_nil))))
      (pss_cons (ps_if (pt_or (pt_cmpR op_lt (pe_callB call_len_seq (by rfl) T.len_ PySem.boot_len (pa_cons (pv 1) pa_nil)) pe_int (nomark _)) (pw_or1 (pt_cmpR op_lt (pv 2) pe_int (nomark _))))
        (pss_one (ps_ret (pe_tup (pa_cons pe_str (pa_cons (pe_tup (pa_cons (pe_callB call_len_seq (by rfl) T.len_ PySem.boot_len (pa_cons (pe_lc (tt := tTest (tOp rEq (tOp (rIxT K) (tVar 5) (tC (.int 0))) (tC (.str "fresh")))) (own := [("one", 5)]) (g := gName 5) rfl scEnt.nd (pi_list (pv 1))
          (blkOk_by (N := nEnt) (sc := defScope sEnt) (by decide +kernel)) (fun _ _ _ _ _ => pg_name (i := 5) scEnt.nd rfl (Or.inl rfl)) (fun _ _ _ _ _ => pts_one (pt_cmpR op_eq (pe_ix ix_tup (pv 5) pe_int (fun _ _ => rfl)) pe_str (nomark _))) (fun _ _ _ _ _ => pv 5)) pa_nil)) pa_nil)) pa_nil))))) pss_nil)
      (pss_cons (ps_if (pt_cmpR op_eq (pv 2) pe_int (nomark _)) (pss_one (ps_ret (pe_tup (pa_cons pe_str (pa_cons (pe_tup (pa_cons (pe_call L.GS hr (by rfl) L.gS L.kS L.bS .nil pass0 (pa_cons (pv 0) (pa_cons (pe_lst (pa_cons pe_str (pa_cons pe_str (pa_cons pe_str (pa_cons pe_str (pa_cons pe_str pa_nil)))))) pa_nil))) pa_nil)) pa_nil))))) pss_nil)
      (pss_cons (ps_if (pt_cmpR op_eq (pv 2) pe_int (nomark _)) (pss_one (ps_ret (pe_tup (pa_cons pe_str (pa_cons (pe_tup (pa_cons (pe_call L.GS hr (by rfl) L.gS L.kS L.bS .nil pass0 (pa_cons (pv 0) (pa_cons (pe_lst (pa_cons pe_int (pa_cons pe_int (pa_cons pe_int (pa_cons (pe_op op_sub (pe_op op_pow pe_int pe_int) pe_int)
          (pa_cons (pe_call L.GP hr1 (by rfl) L.gP L.kP L.bP .nil pass0 (pa_cons (pv 0) (pa_cons pe_int pa_nil))) pa_nil)))))) pa_nil))) pa_nil)) pa_nil))))) pss_nil)
      (pss_cons (ps_setLc (te := tCall spAny [] E0 (tCons (tVar 0) (tCons (tCB (rLen K) (tCons (tVar 1) tNil)) tNil))) (own := [("turn", 6)]) (i := 3) (g := gName 6) rfl scEnt.nd rfl rfl (sw_true rfl rfl rfl (by decide +kernel)) (pi_range1 (by rfl) L.mr (pa_cons pe_int pa_nil))
          (blkOk_by (N := nEnt) (sc := defScope sEnt) (by decide +kernel)) (fun _ _ _ _ _ => pg_name (i := 6) scEnt.nd rfl (Or.inl rfl)) (fun _ _ _ _ _ => pts_nil) (fun _ _ _ _ _ => pe_call L.GA hr (by rfl) L.gA L.kA L.bA .nil pass0 (pa_cons (pv 0) (pa_cons (pe_callB call_len_seq (by rfl) T.len_ PySem.boot_len (pa_cons (pv 1) pa_nil)) pa_nil))))
      (pss_cons (ps_if (pt_cmpR op_lt (pv 2) pe_int (nomark _)) (pss_one (ps_ret (pe_tup (pa_cons pe_str (pa_cons (pe_callTy call_tuple_of (by rfl) T.tuple_ (by decide +kernel) (pa_cons (pe_lc (te := tCall spAny [] E0 (tCons (tVar 0) (tCons (tCB (rLen K) (tCons (tVar 1) tNil)) tNil))) (own := [("turn", 6)]) (g := gName 6) rfl scEnt.nd
          (pi_range1 (by rfl) L.mr (pa_cons (pe_call L.GP hr1 (by rfl) L.gP L.kP L.bP .nil pass0 (pa_cons (pv 0) (pa_cons pe_int pa_nil))) pa_nil))
          (blkOk_by (N := nEnt) (sc := defScope sEnt) (by decide +kernel)) (fun _ _ _ _ _ => pg_name (i := 6) scEnt.nd rfl (Or.inl rfl)) (fun _ _ _ _ _ => pts_nil) (fun _ _ _ _ _ => pe_call L.GA hr (by rfl) L.gA L.kA L.bA .nil pass0 (pa_cons (pv 0) (pa_cons (pe_callB call_len_seq (by rfl) T.len_ PySem.boot_len (pa_cons (pv 1) pa_nil)) pa_nil)))) pa_nil)) pa_nil))))) pss_nil)
      (pss_cons (ps_if (pt_cmpR op_lt (pv 2) pe_int (nomark _)) (pss_one (ps_ret (pe_tup (pa_cons pe_str (pa_cons (pe_tup (pa_cons (pe_call L.GO hr (by rfl) L.gO L.kO L.bO .nil pass0 (pa_cons (pv 0) (pa_cons (pe_callB call_len_seq (by rfl) T.len_ PySem.boot_len (pa_cons (pv 1) pa_nil)) pa_nil))) pa_nil)) pa_nil))))) pss_nil)
      (pss_cons (ps_if (pt_cmpR op_lt (pv 2) pe_int (nomark _)) (pss_cons (ps_setLc (tt := tTest (tOp rEq (tOp (rIxT K) (tOp (rIxL K) (tVar 1) (tVar 7)) (tC (.int 0))) (tC (.str "lock")))) (own := [("at", 7)]) (i := 4) (g := gName 7) rfl scEnt.nd rfl rfl (sw_true rfl rfl rfl (by decide +kernel))
            (pi_range1 (by rfl) L.mr (pa_cons (pe_callB call_len_seq (by rfl) T.len_ PySem.boot_len (pa_cons (pv 1) pa_nil)) pa_nil))
            (blkOk_by (N := nEnt) (sc := defScope sEnt) (by decide +kernel)) (fun _ _ _ _ _ => pg_name (i := 7) scEnt.nd rfl (Or.inl rfl)) (fun _ _ _ _ _ => pts_one (pt_cmpR op_eq (pe_ix ix_tup (pe_ix ix_list (pv 1) (pv 7) (fun _ _ => rfl)) pe_int (fun _ _ => rfl)) pe_str (nomark _))) (fun _ _ _ _ _ => pv 7))
          (pss_one (ps_ret (pe_tup (pa_cons pe_str (pa_cons (pe_tup (pa_cons (pe_ifExp (pt_and (pt_cmpR op_gt (pe_callB call_len_seq (by rfl) T.len_ PySem.boot_len (pa_cons (pv 4) pa_nil)) pe_int (nomark _)) (pw_and1 (pt_cmpR op_gt (pe_call L.GP hr1 (by rfl) L.gP L.kP L.bP .nil pass0 (pa_cons (pv 0) (pa_cons pe_int pa_nil))) pe_int (nomark _))))
              (pe_call L.GS hr (by rfl) L.gS L.kS L.bS .nil pass0 (pa_cons (pv 0) (pa_cons (pv 4) pa_nil))) (pe_ix ix_list (pv 3) pe_int (fun _ _ => rfl))) (pa_cons (pe_ix ix_list (pv 3) pe_int (fun _ _ => rfl)) pa_nil))) pa_nil)))))) pss_nil)
      (pss_cons (ps_if (pt_cmpR op_lt (pv 2) pe_int (nomark _)) (pss_one (ps_ret (pe_tup (pa_cons pe_str (pa_cons (pe_tup (pa_cons (pe_call L.GO hr (by rfl) L.gO L.kO L.bO .nil pass0 (pa_cons (pv 0) (pa_cons (pe_callB call_len_seq (by rfl) T.len_ PySem.boot_len (pa_cons (pv 1) pa_nil)) pa_nil))) (pa_cons (pe_ix ix_list (pv 3) pe_int (fun _ _ => rfl)) pa_nil))) pa_nil))))) pss_nil)
      (pss_cons (ps_if (pt_cmpR op_lt (pv 2) pe_int (nomark _)) (pss_one (ps_ret (pe_ifExp (pt_cmpR op_eq (pv 2) pe_int (nomark _)) (pe_tup (pa_cons pe_str (pa_cons (pe_tup (pa_cons (pe_ix ix_list (pv 3) pe_int (fun _ _ => rfl)) (pa_cons (pe_ix ix_list (pv 3) pe_int (fun _ _ => rfl)) pa_nil))) pa_nil)))
          (pe_tup (pa_cons pe_str (pa_cons (pe_tup (pa_cons (pe_call L.GO hr (by rfl) L.gO L.kO L.bO .nil pass0 (pa_cons (pv 0) (pa_cons (pe_callB call_len_seq (by rfl) T.len_ PySem.boot_len (pa_cons (pv 1) pa_nil)) pa_nil))) (pa_cons (pe_ix ix_list (pv 3) pe_int (fun _ _ => rfl)) pa_nil))) pa_nil)))))) pss_nil)
      (pss_one (ps_ret (pe_tup (pa_cons pe_str (pa_cons (pe_tup (pa_cons (pe_ix ix_list (pv 3) pe_int (fun _ _ => rfl)) pa_nil)) pa_nil)))))))))))))), ?_⟩
    refine ⟨_, rfl, b, g, 20, rfl, hB, by decide, by decide, fun H1 way b1 hB1 h0 h20 => ?_⟩
    have hE1 := hE.bs hB (.but b1) lb lg
    obtain ⟨qs, hqs1, hql, hqe1⟩ := hE1.get
    have sq1 : SqL K H1 l (qs.map .ref) := .of hqs1
    refine ⟨_, rfl, l, _, rfl, .inl sq1, _, _, rfl, rfl, _, rfl, ?_⟩
    rw [List.length_map, hql]
    by_cases hn2 : es.length < 2
    · rw [decide_eq_true (show ((es.length : Nat) : Int) < 2 by omega)]
      refine iteT (iteT ?_)
      refine ⟨_, rfl, l, rfl, ⟨_, sq1⟩, fun D nD => ?_⟩
      refine lcF walk_list (fun i => if isFr es i = true then some (V.ref (qs.getD i 0)) else none) (by rw [List.length_map]; exact Nat.lt_of_le_of_lt (by omega : qs.length ≤ 1000) (by decide)) nD (fun _ sm => sm.seq sq1) ?_ ?_
      · rintro i y G G' Q' N' hi sm ⟨rfl, hy⟩ hq1 hq2
        rw [List.length_map] at hi
        have hi2 : i < es.length := by omega
        obtain ⟨qa, ha, hae⟩ := hqe1 i _ (List.getElem?_eq_getElem hi2)
        rw [List.getElem?_map, ha] at hy
        cases hy
        obtain ⟨pp, hpp, _⟩ := hae
        have e1 : es.getD i ("", []) = es[i] := by rw [List.getD_eq_getElem?_getD, List.getElem?_eq_getElem hi2]; rfl
        have e2 : qs.getD i 0 = qa := by rw [List.getD_eq_getElem?_getD, ha]; rfl
        refine ⟨rfl, _, rfl, qa, _, _, _, rfl, rfl, .of (sm _ _ hpp), rfl, rfl, _, rfl, ?_⟩
        rw [strV]
        unfold isFr at hq1 hq2
        rw [e1] at hq1 hq2
        rw [e2] at hq1
        by_cases hf : es[i].1 = ("fresh" : Str)
        · rw [decide_eq_true hf] at hq1 ⊢
          exact iteT ⟨_, rfl, hq1 _ rfl _ (Same.refl _)⟩
        · rw [decide_eq_false hf] at hq2 ⊢
          exact iteF (hq2 rfl _ (Same.refl _))
      · intro G sm hd
        rw [List.length_map, hql] at hd
        refine ⟨D, _, rfl, .inl (.of hd), ?_⟩
        rw [cnt_range]
        refine ⟨by show 1 ≤ sizeLine; decide, fun p np => ⟨by show 2 ≤ sizeLine; decide, fun p2 np2 => ?_⟩⟩
        obtain ⟨z1, z2, z3⟩ := mkE (k := "fresh") (ks := [.inl (cntF es : Nat)]) rfl ((BS.but b1).trans (.same sm)) (hB1.same sm) np np2
        exact q _ p2 _ z1 z2 z3 (.inl rfl)
    rw [decide_eq_false (show ¬ ((es.length : Nat) : Int) < 2 by omega)]
    refine iteF ⟨_, rfl, _, _, rfl, rfl, _, rfl, ?_⟩
    by_cases hw3 : way < 3
    · rw [decide_eq_true hw3]
      refine iteT ?_
      refine ⟨_, rfl, l, rfl, ⟨_, sq1⟩, fun D nD => ?_⟩
      refine lcF walk_list (fun i => if isFr es i = true then some (V.ref (qs.getD i 0)) else none) (by rw [List.length_map]; exact Nat.lt_of_le_of_lt (by omega : qs.length ≤ 1000) (by decide)) nD (fun _ sm => sm.seq sq1) ?_ ?_
      · rintro i y G G' Q' N' hi sm ⟨rfl, hy⟩ hq1 hq2
        rw [List.length_map] at hi
        have hi2 : i < es.length := by omega
        obtain ⟨qa, ha, hae⟩ := hqe1 i _ (List.getElem?_eq_getElem hi2)
        rw [List.getElem?_map, ha] at hy
        cases hy
        obtain ⟨pp, hpp, _⟩ := hae
        have e1 : es.getD i ("", []) = es[i] := by rw [List.getD_eq_getElem?_getD, List.getElem?_eq_getElem hi2]; rfl
        have e2 : qs.getD i 0 = qa := by rw [List.getD_eq_getElem?_getD, ha]; rfl
        refine ⟨rfl, _, rfl, qa, _, _, _, rfl, rfl, .of (sm _ _ hpp), rfl, rfl, _, rfl, ?_⟩
        rw [strV]
        unfold isFr at hq1 hq2
        rw [e1] at hq1 hq2
        rw [e2] at hq1
        by_cases hf : es[i].1 = ("fresh" : Str)
        · rw [decide_eq_true hf] at hq1 ⊢
          exact iteT ⟨_, rfl, hq1 _ rfl _ (Same.refl _)⟩
        · rw [decide_eq_false hf] at hq2 ⊢
          exact iteF (hq2 rfl _ (Same.refl _))
      · intro G sm hd
        rw [List.length_map, hql] at hd
        refine ⟨D, _, rfl, .inl (.of hd), ?_⟩
        rw [cnt_range]
        refine ⟨by show 1 ≤ sizeLine; decide, fun p np => ⟨by show 2 ≤ sizeLine; decide, fun p2 np2 => ?_⟩⟩
        obtain ⟨z1, z2, z3⟩ := mkE (k := "fresh") (ks := [.inl (cntF es : Nat)]) rfl ((BS.but b1).trans (.same sm)) (hB1.same sm) np np2
        exact q _ p2 _ z1 z2 z3 (.inl rfl)
    rw [decide_eq_false hw3]
    refine iteF ?_
    have n0 : 2 ≤ es.length := by omega
    have fin1 : ∀ (k : Str) (ks : List Key) (G : Hp), BS b g H G → BagAt G b g → Ok1 es.length (k, ks) → k ∈ putK9 → ∀ xs : List V, xs = ks.map kV → xs.length ≤ 1000 →
        (xs.length ≤ sizeLine ∧ ∀ p, G p = none → (2 ≤ sizeLine ∧ ∀ p2, (upd G p (.tup xs)) p2 = none → Q (.ref p2) (upd (upd G p (.tup xs)) p2 (.tup [.str k, .ref p])))) := fun k ks G s hB ok hk xs e hl =>
      ⟨Nat.le_trans hl (by decide), fun p np => ⟨by decide, fun p2 np2 => by
        obtain ⟨z1, z2, z3⟩ := mkE (k := k) e s hB np np2
        exact q _ p2 _ z1 z2 z3 (.inr ⟨ok, hk⟩)⟩⟩
    have finK : ∀ (k : Str) (is : List Int) (G : Hp), BS b g H G → BagAt G b g → (k, is.length) ∈ sizesK → (∀ i ∈ is, 0 ≤ i ∧ i < (es.length : Nat)) → ∀ xs : List V, xs = is.map .int →
        (xs.length ≤ sizeLine ∧ ∀ p, G p = none → (2 ≤ sizeLine ∧ ∀ p2, (upd G p (.tup xs)) p2 = none → Q (.ref p2) (upd (upd G p (.tup xs)) p2 (.tup [.str k, .ref p])))) := fun k is G s hB hk hi xs e =>
      fin1 k (is.map .inl) G s hB (.parts k is hk hi) ((show ∀ p ∈ sizesK, p.1 ∈ putK9 by decide +kernel) _ hk) xs (by rw [kV_ints, e]) (by rw [e, List.length_map]; have := siz_le _ hk; omega)
    refine ⟨_, rfl, rfl, _, rfl, ?_⟩
    rw [intV]
    by_cases hw : way = 3
    · rw [decide_eq_true hw]
      refine iteT ⟨_, rfl, by show 5 ≤ sizeLine; decide, fun t nt => ?_⟩
      obtain ⟨tb, tg⟩ := hB1.neb nt
      refine ⟨b, g, t, _, rfl, hB1.updN tb tg, .of upd_same, tb, tg, by simp, by show 5 < 1073741824; decide, fun H2 v b2 hB2 hv => ?_⟩
      obtain ⟨x, rfl, hx⟩ : ∃ x, v = .str x ∧ nameV (.str x) = true := by
        simp only [List.mem_cons, List.not_mem_nil, or_false] at hv
        rcases hv with rfl | rfl | rfl | rfl | rfl
        · exact ⟨_, rfl, by decide +kernel⟩
        · exact ⟨_, rfl, by decide +kernel⟩
        · exact ⟨_, rfl, by decide +kernel⟩
        · exact ⟨_, rfl, by decide +kernel⟩
        · exact ⟨_, rfl, by decide +kernel⟩
      exact fin1 "name" [.inr x] H2 ((BS.but b1).trans ((BS.same (same_upd nt)).trans (.but b2))) hB2 (.name x hx) (by decide +kernel) _ rfl (by show 1 ≤ 1000; decide)
    rw [decide_eq_false hw]
    refine iteF ⟨_, rfl, rfl, _, rfl, ?_⟩
    rw [intV]
    by_cases hw : way = 4
    · rw [decide_eq_true hw]
      refine iteT ⟨_, rfl, ?_⟩
      refine ⟨_, _, rfl, rfl, ⟨by decide, by decide, by decide⟩, _, _, rfl, rfl, ?_⟩
      refine ⟨_, rfl, b, g, 90, rfl, hB1, by decide, by decide, fun H2 r b2 hB2 r0 r1 => ?_⟩
      refine ⟨by show 5 ≤ sizeLine; decide, fun t nt => ?_⟩
      obtain ⟨tb, tg⟩ := hB2.neb nt
      refine ⟨b, g, t, _, rfl, hB2.updN tb tg, .of upd_same, tb, tg, by simp, by show 5 < 1073741824; decide, fun H3 v b3 hB3 hv => ?_⟩
      obtain ⟨x, rfl, hx0, hx1⟩ : ∃ x, v = .int x ∧ 0 ≤ x ∧ x < 10 ^ 12 := by
        simp only [List.mem_cons, List.not_mem_nil, or_false] at hv
        rcases hv with rfl | rfl | rfl | rfl | rfl
        · exact ⟨_, rfl, by decide, by decide⟩
        · exact ⟨_, rfl, by decide, by decide⟩
        · exact ⟨_, rfl, by decide, by decide⟩
        · exact ⟨_, rfl, by decide, by decide⟩
        · exact ⟨_, rfl, r0, Int.lt_trans r1 (by decide)⟩
      exact fin1 "number" [.inl x] H3 ((BS.but b1).trans ((BS.but b2).trans ((BS.same (same_upd nt)).trans (.but b3)))) hB3 (.num x hx0 hx1) (by decide +kernel) _ rfl (by show 1 ≤ 1000; decide)
    rw [decide_eq_false hw]
    refine iteF ?_
    -- the parts
    have anyS : ∀ (G G4 : Hp) (Q' : VK), BS b g H1 G → BagAt G b g → (∀ v H4, PvI es.length v → BS b g G H4 → BagAt H4 b g → Q' v H4) → rLen K [.ref l] G fun v H5 => spAny [.ref b, v] H5 Q' E0 := fun G G4 Q' sG hG hq =>
      ⟨l, qs.map .ref, rfl, .inl (.of (sG.1 _ _ lb lg hqs1)), b, g, _, rfl, hG, by rw [List.length_map, hql]; omega, by rw [List.length_map, hql]; omega, fun H4 r bb hBB r0 r1 => hq _ H4 ⟨r, rfl, r0, by rw [List.length_map, hql] at r1; exact r1⟩ (.but bb) hBB⟩
    refine ⟨_, rfl, by decide, by decide, fun D nD => ?_⟩
    refine lcB (walk_range (lo := 0) (n := 2)) (b := b) (b2 := g) (PvI es.length) (by decide) nD hB1 (fun _ _ => trivial) ?_ ?_
    · rintro i x G G' Q' hi sG hG ⟨rfl, rfl⟩ hq
      exact ⟨rfl, _, rfl, _, rfl, anyS G' G' Q' sG hG hq⟩
    intro H3 xs s3 hB3 hD3 hlx hpx
    obtain ⟨is, rfl, hi2⟩ := ints_pv hpx
    rw [List.length_map] at hlx
    obtain ⟨i0, i1, rfl⟩ : ∃ i0 i1, is = [i0, i1] := by
      match is, hlx with
      | [a, b], _ => exact ⟨a, b, rfl⟩
    obtain ⟨nDb, nDg⟩ := hB1.neb nD
    have sH3 : BS b g H H3 := (BS.but b1).trans s3
    have g0 := hi2 i0 (by simp)
    have g1 := hi2 i1 (by simp)
    refine ⟨_, rfl, _, _, rfl, rfl, _, rfl, ?_⟩
    have hl3 : H3 l = some (.lst (qs.map .ref)) := s3.1 _ _ lb lg hqs1
    have lq0 : 0 < (((qs.map V.ref).length : Nat) : Int) := by rw [List.length_map, hql]; omega
    have lq1 : (((qs.map V.ref).length : Nat) : Int) < 1073741824 := by rw [List.length_map, hql]; omega
    have lqe : (((qs.map V.ref).length : Nat) : Int) = (es.length : Nat) := by rw [List.length_map, hql]
    by_cases hw : way < 8
    · rw [decide_eq_true hw]
      refine iteT ⟨_, rfl, b, g, 4, rfl, hB3, by decide, by decide, fun H4 r b4 hB4 r0 r1 => ?_⟩
      refine ⟨_, rfl, by omega, by omega, fun D2 nD2 => ?_⟩
      refine lcB (walk_range (lo := 0) (n := r.toNat)) (b := b) (b2 := g) (PvI es.length) (Nat.lt_of_lt_of_le (show r.toNat < 4 by omega) (by decide)) nD2 hB4 (fun _ _ => trivial) ?_ ?_
      · rintro i x G G' Q' hi sG hG ⟨rfl, rfl⟩ hq
        exact ⟨rfl, _, rfl, _, rfl, anyS G' G' Q' (s3.trans ((BS.but b4).trans sG)) hG hq⟩
      intro H5 ys s5 hB5 hD5 hly hpy
      obtain ⟨js, rfl, hj⟩ := ints_pv hpy
      rw [List.length_map] at hly
      refine ⟨D2, _, rfl, .inl ⟨.of hD5, fun p np => ⟨by show 2 ≤ sizeLine; decide, fun p2 np2 => ?_⟩⟩⟩
      obtain ⟨z1, z2, z3⟩ := mkE (k := "row") (ks := js.map .inl) (kV_ints js).symm (sH3.trans ((BS.but b4).trans s5)) hB5 np np2
      exact q _ p2 _ z1 z2 z3 (.inr ⟨.row js (by omega) hj, show ("row" : Str) ∈ putK9 by decide +kernel⟩)
    rw [decide_eq_false hw]
    refine iteF ⟨_, rfl, _, _, rfl, rfl, _, rfl, ?_⟩
    by_cases hw : way < 11
    · rw [decide_eq_true hw]
      refine iteT ⟨_, rfl, _, rfl, l, _, rfl, .inl (.of hl3), b, g, _, rfl, hB3, lq0, lq1, fun H4 r b4 hB4 r0 r1 => ?_⟩
      have r1 : r < ((es.length : Nat) : Int) := by rw [← lqe]; exact r1
      exact finK "lock" [r] H4 (sH3.trans (.but b4)) hB4 (show (("lock" : Str), 1) ∈ sizesK by decide +kernel) (fun i hi => by rw [List.mem_singleton] at hi; rw [hi]; exact ⟨r0, r1⟩) _ rfl
    rw [decide_eq_false hw]
    refine iteF ⟨_, rfl, _, _, rfl, rfl, _, rfl, ?_⟩
    by_cases hw : way < 14
    · rw [decide_eq_true hw]
      refine iteT ⟨_, rfl, l, _, rfl, .inl (.of hl3), _, rfl, by omega, by omega, fun D2 nD2 => ?_⟩
      obtain ⟨n2b, n2g⟩ := hB3.neb nD2
      have nDD2 : D ≠ D2 := ne_of_none hD3 nD2
      refine lcF (walk_range (lo := 0)) (fun i => if decide ((es.getD i ("", [])).1 = ("lock" : Str)) = true then some (V.int (0 + (i : Nat))) else none) (by rw [lqe, Int.toNat_natCast]; exact Nat.lt_of_le_of_lt hlen (by decide)) nD2 (fun _ _ => trivial) ?_ ?_
      · rintro i y G G' Q' N' hi sm ⟨rfl, rfl⟩ hq1 hq2
        have hi2 : i < es.length := by rw [lqe, Int.toNat_natCast] at hi; exact hi
        obtain ⟨qa, ha, hae⟩ := hqe1 i _ (List.getElem?_eq_getElem hi2)
        obtain ⟨pp, hpp, _⟩ := hae
        have e1 : es.getD i ("", []) = es[i] := by rw [List.getD_eq_getElem?_getD, List.getElem?_eq_getElem hi2]; rfl
        have hp3 : H3 qa = some (.tup [.str es[i].1, .ref pp]) := by
          obtain ⟨n1, n2⟩ := hB1.notup hpp
          exact s3.1 _ _ n1 n2 hpp
        refine ⟨rfl, _, rfl, _, rfl, l, _, _, .ref qa, rfl, rfl, .of (sm _ _ hl3), ?_, ?_⟩
        · have := atI_nat (xs := qs.map V.ref) (j := i) (v := .ref qa) (by rw [List.getElem?_map, ha]; rfl)
          rw [Int.zero_add]
          exact this
        refine ⟨qa, _, _, _, rfl, rfl, .of (sm _ _ hp3), rfl, rfl, _, rfl, ?_⟩
        rw [strV]
        rw [e1] at hq1 hq2
        by_cases hf : es[i].1 = ("lock" : Str)
        · rw [decide_eq_true hf] at hq1 ⊢
          exact iteT ⟨_, rfl, hq1 _ rfl _ (Same.refl _)⟩
        · rw [decide_eq_false hf] at hq2 ⊢
          exact iteF (hq2 rfl _ (Same.refl _))
      intro G sm hd
      rw [lqe, Int.toNat_natCast] at hd
      generalize hks : ((List.range es.length).filterMap fun i => if decide ((es.getD i ("", [])).1 = ("lock" : Str)) = true then some (V.int (0 + (i : Nat))) else none) = ks at hd
      have hkl : ks.length ≤ 1000 := by
        rw [← hks]
        have := List.length_filterMap_le (fun i => if decide ((es.getD i ("", [])).1 = ("lock" : Str)) = true then some (V.int (0 + (i : Nat))) else none) (List.range es.length)
        rw [List.length_range] at this
        omega
      have hkv : ∀ v ∈ ks, PvI es.length v := by
        intro v hv
        rw [← hks] at hv
        obtain ⟨i, hi, he⟩ := List.mem_filterMap.mp hv
        have hi := List.mem_range.mp hi
        split at he
        · cases he; exact ⟨_, rfl, by omega, by omega⟩
        · cases he
      have hBG := hB3.same sm
      have sG := sH3.trans (.same sm)
      have gD := sm _ _ hD3
      refine ⟨_, rfl, D2, _, rfl, .inl (.of hd), _, _, rfl, rfl, _, rfl, ?_⟩
      have two : ∀ {x y : Int}, (0 ≤ x ∧ x < ((es.length : Nat) : Int)) → (0 ≤ y ∧ y < ((es.length : Nat) : Int)) → ∀ i ∈ [x, y], 0 ≤ i ∧ i < ((es.length : Nat) : Int) := fun hx hy i hi => by
        rcases List.mem_cons.mp hi with rfl | hi
        · exact hx
        · rw [List.mem_singleton] at hi; rw [hi]; exact hy
      have kin : (("box" : Str), 2) ∈ sizesK := by decide +kernel
      by_cases hk0 : (0 : Int) < ((ks.length : Nat) : Int)
      · rw [decide_eq_true hk0]
        refine iteT ⟨_, rfl, b, g, 9, rfl, hBG, by decide, by decide, fun H4 r b4 hB4 r0 r1 => ⟨_, _, rfl, rfl, _, rfl, ?_⟩⟩
        have d4 : H4 D = some (.lst [.int i0, .int i1]) := by rw [b4 D nDb nDg]; exact gD
        have k4 : H4 D2 = some (.lst ks) := by rw [b4 D2 n2b n2g]; exact hd
        refine ite2 (fun _ => ?_) (fun _ => ?_)
        · refine ⟨_, rfl, _, rfl, b, g, D2, ks, rfl, hB4, .of k4, n2b, n2g, fun z => (by rw [z] at hk0; exact absurd hk0 (by decide)), by omega, fun H5 v b5 hB5 hv => ?_⟩
          obtain ⟨j, rfl, hj⟩ := hkv v hv
          refine ⟨_, rfl, D, _, _, .int i1, rfl, rfl, .of (show H5 D = some (.lst [.int i0, .int i1]) by rw [b5 D nDb nDg]; exact d4), rfl, ?_⟩
          exact finK "box" [j, i1] H5 (sG.trans ((BS.but b4).trans (.but b5))) hB5 kin (two hj g1) _ rfl
        · refine ⟨_, rfl, D, _, _, .int i0, rfl, rfl, .of d4, rfl, _, rfl, D, _, _, .int i1, rfl, rfl, .of d4, rfl, ?_⟩
          exact finK "box" [i0, i1] H4 (sG.trans (.but b4)) hB4 kin (two g0 g1) _ rfl
      · rw [decide_eq_false hk0]
        refine iteF (iteF ⟨_, rfl, D, _, _, .int i0, rfl, rfl, .of gD, rfl, _, rfl, D, _, _, .int i1, rfl, rfl, .of gD, rfl, ?_⟩)
        exact finK "box" [i0, i1] G sG hBG kin (two g0 g1) _ rfl
    rw [decide_eq_false hw]
    refine iteF ⟨_, rfl, _, _, rfl, rfl, _, rfl, ?_⟩
    have two : ∀ {x y : Int}, (0 ≤ x ∧ x < ((es.length : Nat) : Int)) → (0 ≤ y ∧ y < ((es.length : Nat) : Int)) → ∀ i ∈ [x, y], 0 ≤ i ∧ i < ((es.length : Nat) : Int) := fun hx hy i hi => by
      rcases List.mem_cons.mp hi with rfl | hi
      · exact hx
      · rw [List.mem_singleton] at hi; rw [hi]; exact hy
    have keepD : ∀ {G : Hp}, But b g H3 G → G D = some (.lst [.int i0, .int i1]) := fun bb => by rw [bb D nDb nDg]; exact hD3
    by_cases hw : way < 17
    · rw [decide_eq_true hw]
      refine iteT ⟨_, rfl, _, rfl, l, _, rfl, .inl (.of hl3), b, g, _, rfl, hB3, lq0, lq1, fun H4 r b4 hB4 r0 r1 => ?_⟩
      have r1 : r < ((es.length : Nat) : Int) := by rw [← lqe]; exact r1
      refine ⟨_, rfl, D, _, _, .int i1, rfl, rfl, .of (keepD b4), rfl, ?_⟩
      exact finK "chest" [r, i1] H4 (sH3.trans (.but b4)) hB4 (show (("chest" : Str), 2) ∈ sizesK by decide +kernel) (two ⟨r0, r1⟩ g1) _ rfl
    rw [decide_eq_false hw]
    refine iteF ⟨_, rfl, _, _, rfl, rfl, _, rfl, ?_⟩
    by_cases hw : way < 19
    · rw [decide_eq_true hw]
      refine iteT ⟨_, rfl, rfl, _, rfl, ?_⟩
      rw [intV]
      by_cases hw : way = 17
      · rw [decide_eq_true hw]
        refine iteT ⟨_, rfl, D, _, _, .int i0, rfl, rfl, .of hD3, rfl, _, rfl, D, _, _, .int i1, rfl, rfl, .of hD3, rfl, ?_⟩
        exact finK "made" [i0, i1] H3 sH3 hB3 (show (("made" : Str), 2) ∈ sizesK by decide +kernel) (two g0 g1) _ rfl
      · rw [decide_eq_false hw]
        refine iteF ⟨_, rfl, _, rfl, l, _, rfl, .inl (.of hl3), b, g, _, rfl, hB3, lq0, lq1, fun H4 r b4 hB4 r0 r1 => ?_⟩
        have r1 : r < ((es.length : Nat) : Int) := by rw [← lqe]; exact r1
        refine ⟨_, rfl, D, _, _, .int i1, rfl, rfl, .of (keepD b4), rfl, ?_⟩
        exact finK "mark" [r, i1] H4 (sH3.trans (.but b4)) hB4 (show (("mark" : Str), 2) ∈ sizesK by decide +kernel) (two ⟨r0, r1⟩ g1) _ rfl
    rw [decide_eq_false hw]
    refine iteF ⟨_, rfl, D, _, _, .int i0, rfl, rfl, .of hD3, rfl, ?_⟩
    exact finK "print" [i0] H3 sH3 hB3 (show (("print" : Str), 1) ∈ sizesK by decide +kernel) (fun i hi => by rw [List.mem_singleton] at hi; rw [hi]; exact g0) _ rfl
end
end L2.My
end
section
set_option Elab.async false
set_option linter.all false
set_option maxRecDepth 100000
set_option maxHeartbeats 4000000
namespace L2.My
open PySem PySem.Spec PyProof.Rows
abbrev sBent : Stmt := top 33
/-- a thing that stands apart from the bag, its texts good -/
def GS (b g : Addr) (H : Hp) (v : V) : Prop := (∃ t, ThT H v t) ∧ (∀ a, v = .ref a → a ≠ b ∧ a ≠ g) ∧ ∀ z, v = .str z → z.length ≤ 1000 ∧ z.cps.toList.all goodC = true ∧ PyData.strOk z = true
theorem ThT.bs {b g : Addr} {H H' : Hp} {v : V} {t : String} (h : ThT H v t) (ha : ∀ a, v = .ref a → a ≠ b ∧ a ≠ g) (s : BS b g H H') : ThT H' v t := by
  cases h with
  | non => exact .non
  | bl b => exact .bl b
  | int i => exact .int i
  | str x => exact .str x
  | @lst a xs h => obtain ⟨h1, h2⟩ := ha a rfl; exact .lst (s.1 _ _ h1 h2 h)
  | @tup a xs h => obtain ⟨h1, h2⟩ := ha a rfl; exact .tup (s.1 _ _ h1 h2 h)
  | @dct a xs h => obtain ⟨h1, h2⟩ := ha a rfl; exact .dct (s.1 _ _ h1 h2 h)
theorem GS.bs {b g : Addr} {H H' : Hp} {v : V} (h : GS b g H v) (s : BS b g H H') : GS b g H' v := by
  obtain ⟨⟨t, h1⟩, h2, h3⟩ := h
  exact ⟨⟨t, h1.bs h2 s⟩, h2, h3⟩
/-- a tuple of such -/
def GT (b g : Addr) (H : Hp) (p : Addr) (xs : List V) : Prop := H p = some (.tup xs) ∧ p ≠ b ∧ p ≠ g ∧ ∀ x ∈ xs, GS b g H x
theorem GT.bs {b g : Addr} {H H' : Hp} {p : Addr} {xs : List V} (h : GT b g H p xs) (s : BS b g H H') : GT b g H' p xs := by
  obtain ⟨h1, h2, h3, h4⟩ := h
  exact ⟨s.1 _ _ h2 h3 h1, h2, h3, fun x hx => (h4 x hx).bs s⟩
/-- what may be handed in as parts -/
def PvB (b g : Addr) (H : Hp) (v : V) : Prop := (∃ p xs, v = .ref p ∧ GT b g H p xs ∧ xs.length ≤ 1000) ∨ ∃ t, ThT H v t ∧ t ≠ "tuple" ∧ ∀ a, v = .ref a → a ≠ b ∧ a ≠ g
theorem PvB.bs {b g : Addr} {H H' : Hp} {v : V} (h : PvB b g H v) (s : BS b g H H') : PvB b g H' v := by
  rcases h with ⟨p, xs, e, h, hl⟩ | ⟨t, h1, h2, h3⟩
  · exact .inl ⟨p, xs, e, h.bs s, hl⟩
  · exact .inr ⟨t, h1.bs h3 s, h2, h3⟩
theorem rSlA_of {K : PySem.W.Frag} {a : Addr} {xs : List V} {lo hi : Option Int} {H : Hp} {Q : VK} (ha : H a = some (.tup xs)) (q : ∀ H' p, Same H H' → H' p = some (.tup (cutV xs lo hi)) → (p = a ∨ H p = none) → Q (.ref p) H') : rSlA K (.ref a) lo hi H Q := by
  refine ⟨a, xs, rfl, .of ha, fun h => q H a (Same.refl H) ?_ (.inl rfl), fun _ p np => q _ p (same_upd np) upd_same (.inr np)⟩
  have e : cutV xs lo hi = xs := by
    unfold cutV
    rw [h.1, h.2]
    simp
  rw [e]; exact ha
theorem rCatA_of {K : PySem.W.Frag} {a c : Addr} {xs ys : List V} {H : Hp} {Q : VK} (ha : H a = some (.tup xs)) (hc : H c = some (.tup ys)) (hl : xs.length + ys.length ≤ 2000) (q : ∀ H' p, Same H H' → H' p = some (.tup (xs ++ ys)) → (p = a ∨ p = c ∨ H p = none) → Q (.ref p) H') : rCatA K (.ref a) (.ref c) H Q := by
  refine ⟨a, c, xs, ys, rfl, rfl, .of ha, .of hc, Nat.le_trans hl (by decide), fun e => ?_, fun _ e => ?_, fun _ _ p np => q _ p (same_upd np) upd_same (.inr (.inr np))⟩
  · subst e; exact q H c (Same.refl H) hc (.inr (.inl rfl))
  · subst e; exact q H a (Same.refl H) (by rw [List.append_nil]; exact ha) (.inl rfl)
theorem cut_sub {xs : List V} {lo hi : Option Int} {x : V} (h : x ∈ cutV xs lo hi) : x ∈ xs := by
  unfold cutV at h
  exact List.mem_of_mem_drop (List.mem_of_mem_take h)
theorem cut_len {xs : List V} {lo hi : Option Int} : (cutV xs lo hi).length ≤ xs.length := by
  unfold cutV
  rw [List.length_take, List.length_drop]
  omega
end L2.My
end
section
set_option Elab.async false
set_option linter.all false
set_option maxRecDepth 100000
set_option maxHeartbeats 4000000
namespace L2.My
open PySem PySem.Spec PyProof.Rows
/-- a kind and parts as they may be handed in -/
def KvB (b g : Addr) (H : Hp) (v : V) : Prop := GS b g H v
def spBent : Sp := fun vs H Q _ => ∃ b g l es q e, vs = [.ref b, .ref l, .ref q] ∧ BagAt H b g ∧ EntsAt H l es ∧ es.length ≤ 1000 ∧ l ≠ b ∧ l ≠ g ∧ EntAt H q e ∧ (∃ m, Ok1 m e) ∧
  ∀ H' r kv pv, BS b g H H' → BagAt H' b g → H' r = some (.tup [kv, pv]) → GS b g H' kv → PvB b g H' pv → Q (.ref r) H'
section
variable {P : Program} {w : World} {K : PySem.W.Frag} {mg : Str → Option Value} {base : Heap}
theorem scBent : FnScope ["bag", "entries", "entry", "kind", "parts", "odd", "at", "new"] ["bag", "entries", "entry"] (defScope sBent) := ⟨rfl, rfl, rfl, by decide +kernel, rfl, by decide +kernel, by decide +kernel⟩
theorem gsS {b g : Addr} {H : Hp} {x : Str} (h1 : x.length ≤ 1000) (h2 : x.cps.toList.all goodC = true) (h3 : PyData.strOk x = true) : GS b g H (.str x) := ⟨⟨_, .str x⟩, (fun a e => nomatch e), (fun z e => by cases e; exact ⟨h1, h2, h3⟩)⟩
theorem gsI {b g : Addr} {H : Hp} {i : Int} : GS b g H (.int i) := ⟨⟨_, .int i⟩, (fun a e => nomatch e), (fun z e => nomatch e)⟩
theorem gsB {b g : Addr} {H : Hp} {i : Bool} : GS b g H (.bl i) := ⟨⟨_, .bl i⟩, (fun a e => nomatch e), (fun z e => nomatch e)⟩
theorem gsN {b g : Addr} {H : Hp} : GS b g H .non := ⟨⟨_, .non⟩, (fun a e => nomatch e), (fun z e => nomatch e)⟩
theorem gsR {b g a : Addr} {H : Hp} {t : String} (h : ThT H (.ref a) t) (h1 : a ≠ b) (h2 : a ≠ g) : GS b g H (.ref a) := ⟨⟨t, h⟩, (fun c e => by cases e; exact ⟨h1, h2⟩), (fun z e => nomatch e)⟩
theorem strRep_cps (z : Str) : ∀ n : Nat, (strRep z n).cps.toList = (List.replicate n z.cps.toList).flatten := by
  intro n
  unfold strRep
  have key : ∀ (n : Nat) (a : Array Nat), ((List.replicate n z.cps).foldl (· ++ ·) a).toList = a.toList ++ (List.replicate n z.cps.toList).flatten := by
    intro n
    induction n with
    | zero => intro a; simp
    | succ n ih => intro a; rw [List.replicate_succ, List.foldl_cons, ih, List.replicate_succ, List.flatten_cons, Array.toList_append, List.append_assoc]
  have := key n #[]
  simpa using this
theorem gsX {b g : Addr} {H : Hp} (n : Nat) (hn : n ≤ 1000) : GS b g H (.str (strRep "x" n)) := by
  have e : ("x" : Str).cps.toList = [120] := by decide +kernel
  have all : ∀ c ∈ (strRep "x" n).cps.toList, c = 120 := by
    intro c hc
    rw [strRep_cps, List.mem_flatten] at hc
    obtain ⟨l, hl, hc⟩ := hc
    rw [List.mem_replicate] at hl
    rw [hl.2, e, List.mem_singleton] at hc
    exact hc
  refine gsS ?_ ?_ ?_
  · rw [strRep_len]
    have : ("x" : Str).length = 1 := by decide +kernel
    rw [this]; omega
  · rw [List.all_eq_true]
    intro c hc
    rw [all c hc]; rfl
  · show (strRep "x" n).cps.all (· < 0x110000) = true
    rw [← Array.all_toList, List.all_eq_true]
    intro c hc
    rw [all c hc]; decide
theorem zeros_mem {n : Nat} {x : V} (h : x ∈ (List.replicate n [V.int 0]).flatten) : x = .int 0 := by
  rw [List.mem_flatten] at h
  obtain ⟨l, hl, hx⟩ := h
  rw [List.mem_replicate] at hl
  rw [hl.2, List.mem_singleton] at hx
  exact hx
theorem zeros_len (n : Nat) : (List.replicate n [V.int 0]).flatten.length = n := by
  induction n with
  | zero => rfl
  | succ n ih => rw [List.replicate_succ, List.flatten_cons, List.length_append, ih]; simp; omega
theorem rep_mem {n : Nat} {xs : List V} {x : V} (h : x ∈ (List.replicate n xs).flatten) : x ∈ xs := by
  rw [List.mem_flatten] at h
  obtain ⟨l, hl, hx⟩ := h
  rw [List.mem_replicate] at hl
  rw [← hl.2]; exact hx
theorem rep_len (n : Nat) (xs : List V) : (List.replicate n xs).flatten.length = n * xs.length := by
  induction n with
  | zero => simp
  | succ n ih => rw [List.replicate_succ, List.flatten_cons, List.length_append, ih, Nat.succ_mul]; omega
theorem nop_of {σ : St} {H : Hp} {Q : Option Int → Hp → Prop} (h : Q none H) : tNoPart σ H Q := h
theorem ok1_gs {b g : Addr} {H : Hp} {m : Nat} {e : Ent} (h : Ok1 m e) : ∀ x ∈ e.2.map kV, GS b g H x := by
  intro x hx
  obtain ⟨k, hk, rfl⟩ := List.mem_map.mp hx
  cases k with
  | inl i => exact gsI
  | inr y =>
    have so := h.good.parts y hk
    cases h with
    | name z hz =>
      rw [List.mem_singleton] at hk
      cases hk
      have h1 := (Bool.and_eq_true_iff.mp (show (decide (y.length ≤ 40) && y.cps.toList.all goodC) = true from hz))
      exact gsS (by have := of_decide_eq_true h1.1; omega) h1.2 so
    | num i _ _ => rw [List.mem_singleton] at hk; cases hk
    | fresh i _ => rw [List.mem_singleton] at hk; cases hk
    | row is _ _ => obtain ⟨i, _, e⟩ := List.mem_map.mp hk; cases e
    | parts k is _ _ => obtain ⟨i, _, e⟩ := List.mem_map.mp hk; cases e
theorem ok_bent {f fD : Addr} {fd fdD : FuncData} {k : Nat} (F : Fun K "_law_bent" "_law_bent" sBent f fd) (L : LfTxt P w K mg base k) (GD : FnOk P w K mg base CX0 (k + 1) fD fdD [] spDeep) (kD : PySem.W.keepIn K (.ref fD) = true) (gD : mg "_law_deep" = some (.ref fD)) (bD : Binds K fdD [] []) :
    FnOk P w K mg base CX0 (k + 3) f fd ["bag", "entries", "entry"] spBent := by
  refine F.ok scBent (fun vs H Q E h => ?_) (fun cdv A outer s H vs Q E hr h => ?_)
  · obtain ⟨b, g, l, es, q, e, rfl, _⟩ := h
    rfl
  · obtain ⟨b, g, l, es, qa, e, rfl, hB, hE, hlen, lb, lg, hq, ⟨om, ok1⟩, q⟩ := h
    have hr1 := hr.mono (show k + 1 ≤ k + 2 by omega)
    have T := L.T
    refine ⟨_, pss_cons (ps_asg (pv 2) (pg_tup rfl (pgs_cons (pg_name (i := 3) scBent.nd rfl (Or.inl rfl)) (pgs_cons (pg_name (i := 4) scBent.nd rfl (Or.inl rfl)) pgs_nil))))
      (pss_cons (ps_if (pt_cmpR op_eq (pe_call L.GP hr1 (by rfl) L.gP L.kP L.bP .nil pass0 (pa_cons (pv 0) (pa_cons pe_int pa_nil))) pe_int (nomark _))
        (pss_one (ps_ret (pe_tup (pa_cons (pe_call L.GS hr (by rfl) L.gS L.kS L.bS .nil pass0 (pa_cons (pv 0) (pa_cons (pe_lst (pa_cons pe_str (pa_cons pe_str (pa_cons pe_str (pa_cons pe_non (pa_cons pe_int (pa_cons pe_bl (pa_cons (pe_tup (pa_cons pe_str pa_nil)) (pa_cons pe_str (pa_cons (pe_call0 GD hr1 (by rfl) gD kD bD .nil pass0) pa_nil)))))))))) pa_nil))) (pa_cons (pv 4) pa_nil))))) pss_nil)
      (pss_cons (ps_set (i := 5) scBent.nd rfl (Or.inl rfl) (pe_lst (pa_cons (pe_callB call_len_seq (by rfl) T.len_ PySem.boot_len (pa_cons (pv 1) pa_nil)) (pa_cons (pe_un un_neg pe_int) (pa_cons pe_bl (pa_cons pe_non (pa_cons pe_str (pa_cons (pe_op op_pow pe_int pe_int) (pa_cons (pe_op op_sub (pe_op op_pow pe_int pe_int) pe_int)
          (pa_cons (pe_tup (pa_cons pe_int pa_nil)) (pa_cons (pe_op op_repS pe_str pe_int) (pa_cons (pe_op op_repS pe_str pe_int) (pa_cons (pe_lst (pa_cons pe_int pa_nil)) (pa_cons (pe_call0 GD hr1 (by rfl) gD kD bD .nil pass0) pa_nil))))))))))))))
      (pss_cons (ps_set (i := 6) scBent.nd rfl (Or.inl rfl) (pe_call L.GP hr1 (by rfl) L.gP L.kP L.bP .nil pass0 (pa_cons (pv 0) (pa_cons (pe_op op_add (pe_callB call_len_seq (by rfl) T.len_ PySem.boot_len (pa_cons (pv 4) pa_nil)) pe_int) pa_nil))))
      (pss_cons (ps_set (i := 7) scBent.nd rfl (Or.inl rfl) (pe_lst (pa_cons (pe_op op_catA (pe_op op_catA (pe_slice sl_tupA (pv 4) po_none (po_some (pv 6))) (pe_tup (pa_cons (pe_call L.GS hr (by rfl) L.gS L.kS L.bS .nil pass0 (pa_cons (pv 0) (pa_cons (pv 5) pa_nil))) pa_nil))) (pe_slice sl_tupA (pv 4) (po_some (pe_op op_add (pv 6) pe_int)) po_none))
          (pa_cons (pe_slice sl_tupA (pv 4) (po_some pe_int) po_none) (pa_cons (pe_op op_catA (pv 4) (pe_slice sl_tupA (pv 4) po_none (po_some pe_int))) (pa_cons (pe_callTy call_list_of (by rfl) T.list_ (by decide +kernel) (pa_cons (pv 4) pa_nil)) (pa_cons pe_non (pa_cons (pe_tup pa_nil) pa_nil))))))))
      (pss_cons (ps_set (i := 7) scBent.nd rfl (Or.inl rfl) (pe_op op_cat (pv 7) (pe_lst (pa_cons (pe_op op_repT (pe_tup (pa_cons pe_int pa_nil)) pe_int) (pa_cons (pe_op op_repT (pe_tup (pa_cons pe_int pa_nil)) pe_int) (pa_cons (pe_call0 GD hr1 (by rfl) gD kD bD .nil pass0) (pa_cons pe_dnewK (pa_cons (pe_op op_catA (pv 4) (pe_tup (pa_cons pe_int pa_nil))) pa_nil))))))))
      (pss_one (ps_ret (pe_tup (pa_cons (pv 3) (pa_cons (pe_call L.GS hr (by rfl) L.gS L.kS L.bS .nil pass0 (pa_cons (pv 0) (pa_cons (pe_op op_cat (pe_op op_rep (pe_slice sl_list (pv 7) po_none (po_some pe_int)) pe_int) (pv 7)) pa_nil))) pa_nil)))))))))), ?_⟩
    obtain ⟨p0, h1, h2⟩ := hq
    obtain ⟨p0b, p0g⟩ := hB.notup h2
    have gp : GT b g H p0 (e.2.map kV) := ⟨h2, p0b, p0g, ok1_gs ok1⟩
    have gk : ∀ G, GS b g G (.str e.1) := fun G => by
      have hk := ok1.kind
      have key : ∀ x ∈ (["name", "number", "fresh", "row", "made", "lock", "box", "chest", "mark", "print"] : List Str), x.length ≤ 1000 ∧ x.cps.toList.all goodC = true ∧ PyData.strOk x = true := by decide +kernel
      obtain ⟨a1, a2, a3⟩ := key _ hk
      exact gsS a1 a2 a3
    have len0 : (e.2.map kV).length ≤ 400 := by rw [List.length_map]; exact ok1.short
    refine ⟨_, rfl, qa, _, rfl, .of h1, rfl, _, _, rfl, _, _, rfl, rfl, ?_⟩
    refine ⟨_, rfl, b, g, 4, rfl, hB, by decide, by decide, fun H1 r b1 hB1 r0 r1 => ⟨rfl, _, rfl, ?_⟩⟩
    have s1 : BS b g H H1 := .but b1
    refine ite2 (fun _ => ?_) (fun _ => ?_)
    · refine ⟨_, rfl, by show 1 ≤ sizeLine; decide, fun t1 nt1 => ?_⟩
      obtain ⟨t1b, t1g⟩ := hB1.neb nt1
      have s2 := same_upd (o := .tup [.str "row"]) nt1
      refine ⟨rfl, fun H2 D s3 nD dD => ?_⟩
      have hB2 := (hB1.same s2).same s3
      obtain ⟨nDb, nDg⟩ := (hB1.same s2).neb nD
      refine ⟨by show 9 ≤ sizeLine; decide, fun t nt => ?_⟩
      obtain ⟨tb, tg⟩ := hB2.neb nt
      have s4 := same_upd (o := .lst [.str "fresh", .str "Row", .str "", .non, .int 0, .bl true, .ref t1, .str "boxes", .ref D]) nt
      refine ⟨b, g, t, _, rfl, hB2.same s4, .of upd_same, tb, tg, by simp, by show 9 < 1073741824; decide, fun H3 v b3 hB3 hv => ?_⟩
      obtain ⟨dx, ys, hd1, hd2⟩ := dD
      have s24 := s2.trans (s3.trans s4)
      have gv : GS b g H3 v := by
        refine GS.bs ?_ (.but b3)
        simp only [List.mem_cons, List.not_mem_nil, or_false] at hv
        rcases hv with rfl | rfl | rfl | rfl | rfl | rfl | rfl | rfl | rfl
        · exact gsS (by decide +kernel) (by decide +kernel) (by decide +kernel)
        · exact gsS (by decide +kernel) (by decide +kernel) (by decide +kernel)
        · exact gsS (by decide +kernel) (by decide +kernel) (by decide +kernel)
        · exact gsN
        · exact gsI
        · exact gsB
        · exact gsR (.tup (s4 _ _ (s3 _ _ upd_same))) t1b t1g
        · exact gsS (by decide +kernel) (by decide +kernel) (by decide +kernel)
        · exact gsR (.lst (s4 _ _ hd1)) nDb nDg
      have s5 : BS b g H H3 := s1.trans ((BS.same s24).trans (.but b3))
      refine ⟨_, rfl, by show 2 ≤ sizeLine; decide, fun p np => ?_⟩
      have s6 := same_upd (o := .tup [v, .ref p0]) np
      exact q _ p v (.ref p0) (s5.trans (.same s6)) (hB3.same s6) upd_same (gv.bs (.same s6)) (.inl ⟨p0, _, rfl, gp.bs (s5.trans (.same s6)), by omega⟩)
    · have hl1 : ∃ qs : List Addr, H1 l = some (.lst (qs.map .ref)) := by
        obtain ⟨qs, h, _⟩ := hE.bs hB s1 lb lg
        exact ⟨qs, h⟩
      obtain ⟨qs, hl1⟩ := hl1
      refine ⟨_, rfl, l, _, rfl, .inl (.of hl1), _, rfl, ?_⟩
      refine ⟨_, _, rfl, rfl, ⟨by decide, by decide, by decide⟩, _, _, rfl, rfl, ⟨by decide, by decide, by decide⟩, _, _, rfl, rfl, ?_⟩
      refine ⟨by show 1 ≤ sizeLine; decide, fun t1 nt1 => ?_⟩
      obtain ⟨t1b, t1g⟩ := hB1.neb nt1
      have s2 := same_upd (o := .tup [.int 0]) nt1
      refine ⟨_, _, rfl, rfl, by decide, by decide, by decide +kernel, by decide +kernel, _, _, rfl, rfl, by decide, by decide, by decide +kernel, by decide +kernel, ?_⟩
      refine ⟨by show 1 ≤ sizeLine; decide, fun t2 nt2 => ?_⟩
      obtain ⟨t2b, t2g⟩ := (hB1.same s2).neb nt2
      have s3 := same_upd (o := .lst [.int 0]) nt2
      refine ⟨rfl, fun H2 D s4 nD dD => ?_⟩
      have hB2 := (hB1.same s2).same (s3.trans s4)
      obtain ⟨nDb, nDg⟩ := ((hB1.same s2).same s3).neb nD
      refine ⟨by show 12 ≤ sizeLine; decide, fun od nod => ?_⟩
      obtain ⟨odb, odg⟩ := hB2.neb nod
      have s5 := same_upd (o := .lst [.int ((qs.map V.ref).length : Nat), .int (-1), .bl true, .non, .str "0", .int (10 ^ (12 : Int).toNat), .int (10 ^ (12 : Int).toNat - 1), .ref t1, .str (strRep "x" 40), .str (strRep "x" 41), .ref t2, .ref D]) nod
      have hos : ∀ v ∈ ([.int ((qs.map V.ref).length : Nat), .int (-1), .bl true, .non, .str "0", .int (10 ^ (12 : Int).toNat), .int (10 ^ (12 : Int).toNat - 1), .ref t1, .str (strRep "x" 40), .str (strRep "x" 41), .ref t2, .ref D] : List V), GS b g H2 v := by
        intro v hv
        obtain ⟨dx, ys, hd1, hd2⟩ := dD
        simp only [List.mem_cons, List.not_mem_nil, or_false] at hv
        rcases hv with rfl | rfl | rfl | rfl | rfl | rfl | rfl | rfl | rfl | rfl | rfl | rfl
        · exact gsI
        · exact gsI
        · exact gsB
        · exact gsN
        · exact gsS (by decide +kernel) (by decide +kernel) (by decide +kernel)
        · exact gsI
        · exact gsI
        · exact gsR (.tup (s4 _ _ (s3 _ _ upd_same))) t1b t1g
        · exact gsX 40 (by decide)
        · exact gsX 41 (by decide)
        · exact gsR (.lst (s4 _ _ upd_same)) t2b t2g
        · exact gsR (.lst hd1) nDb nDg
      have hon : ([.int ((qs.map V.ref).length : Nat), .int (-1), .bl true, .non, .str "0", .int (10 ^ (12 : Int).toNat), .int (10 ^ (12 : Int).toNat - 1), .ref t1, .str (strRep "x" 40), .str (strRep "x" 41), .ref t2, .ref D] : List V).length = 12 := rfl
      show gName 5 (.ref od) _ (upd H2 od (.lst [.int ((qs.map V.ref).length : Nat), .int (-1), .bl true, .non, .str "0", .int (10 ^ (12 : Int).toNat), .int (10 ^ (12 : Int).toNat - 1), .ref t1, .str (strRep "x" 40), .str (strRep "x" 41), .ref t2, .ref D])) _
      revert s5 hos hon
      generalize ([.int ((qs.map V.ref).length : Nat), .int (-1), .bl true, .non, .str "0", .int (10 ^ (12 : Int).toNat), .int (10 ^ (12 : Int).toNat - 1), .ref t1, .str (strRep "x" 40), .str (strRep "x" 41), .ref t2, .ref D] : List V) = os
      intro s5 hos hon
      have hone : os ≠ [] := fun z => by rw [z] at hon; cases hon
      have hB3 := hB2.same s5
      have od3 : (upd H2 od (.lst os)) od = some (.lst os) := upd_same
      revert s5 hB3 od3
      generalize upd H2 od (.lst os) = H3
      intro s5 hB3 od3
      have s03 : BS b g H H3 := s1.trans (.same (s2.trans (s3.trans (s4.trans s5))))
      have gp3 := gp.bs s03
      refine ⟨_, rfl, _, rfl, p0, _, rfl, .inr (.of gp3.1), _, _, rfl, rfl, b, g, _, rfl, hB3, by omega, by omega, fun H4 at_ b4 hB4 a0 a1 => ?_⟩
      have gp4 := gp3.bs (.but b4)
      have od4 : H4 od = some (.lst os) := by rw [b4 od odb odg]; exact od3
      have s04 := s03.trans (.but b4)
      -- the first of the new ones
      refine ⟨_, rfl, _, rfl, _, rfl, rSlA_of gp4.1 fun H5 pa sa hpa fpa => ?_⟩
      have ga : GT b g H5 pa (cutV (e.2.map kV) none (some at_)) := by
        have : pa ≠ b ∧ pa ≠ g := by
          rcases fpa with rfl | fpa
          · exact ⟨p0b, p0g⟩
          · exact hB4.neb fpa
        exact ⟨hpa, this.1, this.2, fun x hx => (gp4.2.2.2 x (cut_sub hx)).bs (.same sa)⟩
      have hB5 := hB4.same sa
      refine ⟨_, rfl, _, rfl, b, g, od, os, rfl, hB5, .of (sa _ _ od4), odb, odg, hone, by rw [hon]; decide, fun H6 v b6 hB6 hv => ⟨by show 1 ≤ sizeLine; decide, fun pt npt => ?_⟩⟩
      obtain ⟨ptb, ptg⟩ := hB6.neb npt
      have s7 := same_upd (o := .tup [v]) npt
      have gv : GS b g H6 v := (hos v hv).bs ((BS.same s5).trans ((BS.but b4).trans ((BS.same sa).trans (.but b6))))
      generalize hH7 : upd H6 pt (.tup [v]) = H7 at s7
      have hB7 := hB6.same s7
      have gt : GT b g H7 pt [v] := ⟨by rw [← hH7, upd_same], ptb, ptg, fun x hx => by rw [List.mem_singleton] at hx; rw [hx]; exact gv.bs (.same s7)⟩
      have ga7 := ga.bs ((BS.but b6).trans (.same s7))
      have cl := cut_len (xs := e.2.map kV) (lo := none) (hi := some at_)
      refine rCatA_of ga7.1 gt.1 (by simp only [List.length_singleton]; omega) fun H8 pc sc hpc fpc => ?_
      have apart : ∀ {G : Hp} {p : Addr}, BagAt G b g → (p = p0 ∨ G p = none) → p ≠ b ∧ p ≠ g := fun hG h => by
        rcases h with rfl | h
        · exact ⟨p0b, p0g⟩
        · exact hG.neb h
      have hB8 := hB7.same sc
      have gc : GT b g H8 pc (cutV (e.2.map kV) none (some at_) ++ [v]) := by
        have : pc ≠ b ∧ pc ≠ g := by
          rcases fpc with rfl | rfl | h
          · exact ⟨ga.2.1, ga.2.2.1⟩
          · exact ⟨ptb, ptg⟩
          · exact hB7.neb h
        refine ⟨hpc, this.1, this.2, fun x hx => ?_⟩
        rcases List.mem_append.mp hx with hx | hx
        · exact (ga7.2.2.2 x hx).bs (.same sc)
        · exact (gt.2.2.2 x hx).bs (.same sc)
      have gp8 := gp4.bs ((BS.same sa).trans ((BS.but b6).trans (.same (s7.trans sc))))
      refine ⟨_, rfl, _, rfl, _, _, rfl, rfl, _, rfl, nop_of (rSlA_of gp8.1 fun H9 pd sd hpd fpd => ?_)⟩
      have hB9 := hB8.same sd
      have gd : GT b g H9 pd (cutV (e.2.map kV) (some (at_ + 1)) none) := ⟨hpd, (apart hB8 fpd).1, (apart hB8 fpd).2, fun x hx => (gp8.2.2.2 x (cut_sub hx)).bs (.same sd)⟩
      have gc9 := gc.bs (.same sd)
      have cl2 := cut_len (xs := e.2.map kV) (lo := some (at_ + 1)) (hi := none)
      refine rCatA_of gc9.1 gd.1 (by rw [List.length_append, List.length_singleton]; omega) fun H10 pe se hpe fpe => ?_
      have hB10 := hB9.same se
      have ge : GT b g H10 pe (cutV (e.2.map kV) none (some at_) ++ [v] ++ cutV (e.2.map kV) (some (at_ + 1)) none) := by
        have : pe ≠ b ∧ pe ≠ g := by
          rcases fpe with rfl | rfl | h
          · exact ⟨gc.2.1, gc.2.2.1⟩
          · exact ⟨gd.2.1, gd.2.2.1⟩
          · exact hB9.neb h
        refine ⟨hpe, this.1, this.2, fun x hx => ?_⟩
        rcases List.mem_append.mp hx with hx | hx
        · exact (gc9.2.2.2 x hx).bs (.same se)
        · exact (gd.2.2.2 x hx).bs (.same se)
      have v1 : PvB b g H10 (.ref pe) := .inl ⟨pe, _, rfl, ge, by rw [List.length_append, List.length_append, List.length_singleton]; omega⟩
      -- the second
      have gp10 := gp8.bs (.same (sd.trans se))
      refine ⟨_, rfl, _, rfl, nop_of (rSlA_of gp10.1 fun H11 pf sf hpf fpf => ?_)⟩
      have hB11 := hB10.same sf
      have gf : GT b g H11 pf (cutV (e.2.map kV) (some 1) none) := ⟨hpf, (apart hB10 fpf).1, (apart hB10 fpf).2, fun x hx => (gp10.2.2.2 x (cut_sub hx)).bs (.same sf)⟩
      have v2 : PvB b g H11 (.ref pf) := .inl ⟨pf, _, rfl, gf, by have := cut_len (xs := e.2.map kV) (lo := some 1) (hi := none); omega⟩
      -- the third
      have gp11 := gp10.bs (.same sf)
      refine ⟨_, rfl, _, rfl, _, rfl, rSlA_of gp11.1 fun H12 pg sg hpg fpg => ?_⟩
      have hB12 := hB11.same sg
      have gg : GT b g H12 pg (cutV (e.2.map kV) none (some 1)) := ⟨hpg, (apart hB11 fpg).1, (apart hB11 fpg).2, fun x hx => (gp11.2.2.2 x (cut_sub hx)).bs (.same sg)⟩
      have gp12 := gp11.bs (.same sg)
      have cl3 := cut_len (xs := e.2.map kV) (lo := none) (hi := some 1)
      refine rCatA_of gp12.1 gg.1 (by omega) fun H13 ph sh hph fph => ?_
      have hB13 := hB12.same sh
      have gh : GT b g H13 ph (e.2.map kV ++ cutV (e.2.map kV) none (some 1)) := by
        have : ph ≠ b ∧ ph ≠ g := by
          rcases fph with rfl | rfl | h
          · exact ⟨p0b, p0g⟩
          · exact ⟨gg.2.1, gg.2.2.1⟩
          · exact hB12.neb h
        refine ⟨hph, this.1, this.2, fun x hx => ?_⟩
        rcases List.mem_append.mp hx with hx | hx
        · exact (gp12.2.2.2 x hx).bs (.same sh)
        · exact (gg.2.2.2 x hx).bs (.same sh)
      have v3 : PvB b g H13 (.ref ph) := .inl ⟨ph, _, rfl, gh, by rw [List.length_append]; omega⟩
      have gp13 := gp12.bs (.same sh)
      -- a list of them, none, the empty tuple
      refine ⟨_, rfl, p0, _, rfl, .inr (.of gp13.1), fun l4 nl4 => ?_⟩
      obtain ⟨l4b, l4g⟩ := hB13.neb nl4
      have s14 := same_upd (o := .lst (e.2.map kV)) nl4
      refine ⟨by show 0 ≤ sizeLine; decide, fun t6 nt6 => ?_⟩
      have hB14 := hB13.same s14
      obtain ⟨t6b, t6g⟩ := hB14.neb nt6
      have s15 := same_upd (o := .tup []) nt6
      have hB15 := hB14.same s15
      refine ⟨by show 6 ≤ sizeLine; decide, fun nw nnw => ?_⟩
      obtain ⟨nwb, nwg⟩ := hB15.neb nnw
      have s16 := same_upd (o := .lst [.ref pe, .ref pf, .ref ph, .ref l4, .non, .ref t6]) nnw
      have news : ∀ x ∈ ([.ref pe, .ref pf, .ref ph, .ref l4, .non, .ref t6] : List V), PvB b g (upd (upd (upd H13 l4 (.lst (e.2.map kV))) t6 (.tup [])) nw (.lst [.ref pe, .ref pf, .ref ph, .ref l4, .non, .ref t6])) x := by
        intro x hx
        have st : Same H13 (upd (upd (upd H13 l4 (.lst (e.2.map kV))) t6 (.tup [])) nw (.lst [.ref pe, .ref pf, .ref ph, .ref l4, .non, .ref t6])) := s14.trans (s15.trans s16)
        simp only [List.mem_cons, List.not_mem_nil, or_false] at hx
        rcases hx with rfl | rfl | rfl | rfl | rfl | rfl
        · exact v1.bs (.same (sf.trans (sg.trans (sh.trans st))))
        · exact v2.bs (.same (sg.trans (sh.trans st)))
        · exact v3.bs (.same st)
        · exact .inr ⟨_, .lst (s16 _ _ (s15 _ _ upd_same)), by decide, fun a e => by cases e; exact ⟨l4b, l4g⟩⟩
        · exact .inr ⟨_, .non, by decide, fun a e => nomatch e⟩
        · exact .inl ⟨t6, [], rfl, ⟨s16 _ _ upd_same, t6b, t6g, fun x hx => nomatch hx⟩, by decide⟩
      have s36 : BS b g H3 (upd (upd (upd H13 l4 (.lst (e.2.map kV))) t6 (.tup [])) nw (.lst [.ref pe, .ref pf, .ref ph, .ref l4, .non, .ref t6])) :=
        (BS.but b4).trans ((BS.same sa).trans ((BS.but b6).trans (.same (s7.trans (sc.trans (sd.trans (se.trans (sf.trans (sg.trans (sh.trans (s14.trans (s15.trans s16))))))))))))
      have hB16 := hB15.same s16
      have gp16 := gp13.bs (.same (s14.trans (s15.trans s16)))
      have nw16 : (upd (upd (upd H13 l4 (.lst (e.2.map kV))) t6 (.tup [])) nw (.lst [.ref pe, .ref pf, .ref ph, .ref l4, .non, .ref t6])) nw = some (.lst [.ref pe, .ref pf, .ref ph, .ref l4, .non, .ref t6]) := upd_same
      have nlen : ([.ref pe, .ref pf, .ref ph, .ref l4, .non, .ref t6] : List V).length = 6 := rfl
      show gName 7 (.ref nw) _ (upd (upd (upd H13 l4 (.lst (e.2.map kV))) t6 (.tup [])) nw (.lst [.ref pe, .ref pf, .ref ph, .ref l4, .non, .ref t6])) _
      revert news s36 hB16 gp16 nw16 nlen
      generalize upd (upd (upd H13 l4 (.lst (e.2.map kV))) t6 (.tup [])) nw (.lst [.ref pe, .ref pf, .ref ph, .ref l4, .non, .ref t6]) = K1
      generalize ([.ref pe, .ref pf, .ref ph, .ref l4, .non, .ref t6] : List V) = n6
      intro news s36 hB16 gp16 nw16 nlen
      refine ⟨_, rfl, by show 1 ≤ sizeLine; decide, fun z1 nz1 => ?_⟩
      have u1 := same_upd (o := .tup [.int 0]) nz1
      refine ⟨z1, 400, _, rfl, rfl, .of upd_same, by simp, by decide, by decide, by show 1 ≤ 1000; decide, fun r1 nr1 => ?_⟩
      have u2 := same_upd (o := .tup (List.replicate (400 : Int).toNat [V.int 0]).flatten) nr1
      refine ⟨by show 1 ≤ sizeLine; decide, fun z2 nz2 => ?_⟩
      have u3 := same_upd (o := .tup [.int 0]) nz2
      refine ⟨z2, 401, _, rfl, rfl, .of upd_same, by simp, by decide, by decide, by show 1 ≤ 1000; decide, fun r2 nr2 => ?_⟩
      have u4 := same_upd (o := .tup (List.replicate (401 : Int).toNat [V.int 0]).flatten) nr2
      have u14 := u1.trans (u2.trans (u3.trans u4))
      have hC4 := hB16.same u14
      refine ⟨rfl, fun K5 D5 u5 nD5 dD5 => fun dk ndk => ?_⟩
      have hC5 := hC4.same u5
      have u6 := same_upd (o := .dK []) ndk
      have hC6 := hC5.same u6
      refine ⟨_, rfl, by show 1 ≤ sizeLine; decide, fun z3 nz3 => ?_⟩
      have u7 := same_upd (o := .tup [.int 0]) nz3
      have hC7 := hC6.same u7
      have gpC := gp16.bs (.same (u14.trans (u5.trans (u6.trans u7))))
      refine rCatA_of gpC.1 upd_same (by simp only [List.length_singleton]; omega) fun K8 pj u8 hpj fpj => ?_
      have hC8 := hC7.same u8
      have gj : GT b g K8 pj (e.2.map kV ++ [.int 0]) := by
        have : pj ≠ b ∧ pj ≠ g := by
          rcases fpj with rfl | rfl | h
          · exact ⟨p0b, p0g⟩
          · exact hC6.neb nz3
          · exact hC7.neb h
        refine ⟨hpj, this.1, this.2, fun x hx => ?_⟩
        rcases List.mem_append.mp hx with hx | hx
        · exact (gpC.2.2.2 x hx).bs (.same u8)
        · rw [List.mem_singleton] at hx; rw [hx]; exact gsI
      refine ⟨by show 5 ≤ sizeLine; decide, fun l5 nl5 => ?_⟩
      have u9 := same_upd (o := .lst [.ref r1, .ref r2, .ref D5, .ref dk, .ref pj]) nl5
      have uA := u14.trans (u5.trans (u6.trans (u7.trans (u8.trans u9))))
      refine ⟨nw, l5, _, _, rfl, rfl, uA _ _ nw16, upd_same, by rw [nlen]; show 6 + 5 ≤ sizeLine; decide, fun nw2 nnw2 => ?_⟩
      obtain ⟨nw2b, nw2g⟩ := (hC8.same u9).neb nnw2
      have hC9 := hC8.same u9
      have uB := same_upd (o := .lst (n6 ++ [.ref r1, .ref r2, .ref D5, .ref dk, .ref pj])) nnw2
      have big : ∀ {G : Hp} {p : Addr} {n : Nat}, n ≤ 1000 → BagAt G b g → p ≠ b → p ≠ g → G p = some (.tup (List.replicate n [V.int 0]).flatten) → PvB b g G (.ref p) := fun {G p n} hn hG h1 h2 e =>
        .inl ⟨p, _, rfl, ⟨e, h1, h2, fun x hx => by rw [zeros_mem hx]; exact gsI⟩, by rw [zeros_len]; exact hn⟩
      have uE := u3.trans (u4.trans (u5.trans (u6.trans (u7.trans (u8.trans (u9.trans uB))))))
      have all : ∀ x ∈ n6 ++ [V.ref r1, V.ref r2, V.ref D5, V.ref dk, V.ref pj], PvB b g (upd (upd K8 l5 (.lst [.ref r1, .ref r2, .ref D5, .ref dk, .ref pj])) nw2 (.lst (n6 ++ [.ref r1, .ref r2, .ref D5, .ref dk, .ref pj]))) x := by
        intro x hx
        rcases List.mem_append.mp hx with hx | hx
        · exact (news x hx).bs (.same (uA.trans uB))
        · simp only [List.mem_cons, List.not_mem_nil, or_false] at hx
          obtain ⟨dx, ys, hd1, hd2⟩ := dD5
          have n1 := (hB16.same u1).neb nr1
          have n2 := (hB16.same (u1.trans (u2.trans u3))).neb nr2
          have n3 := hC4.neb nD5
          have n4 := hC5.neb ndk
          rcases hx with rfl | rfl | rfl | rfl | rfl
          · exact big (n := (400 : Int).toNat) (by decide) (hC9.same uB) n1.1 n1.2 (uE _ _ upd_same)
          · exact big (n := (401 : Int).toNat) (by decide) (hC9.same uB) n2.1 n2.2 ((u5.trans (u6.trans (u7.trans (u8.trans (u9.trans uB))))) _ _ upd_same)
          · exact .inr ⟨_, .lst ((u6.trans (u7.trans (u8.trans (u9.trans uB)))) _ _ hd1), by decide, fun a e => by cases e; exact n3⟩
          · exact .inr ⟨_, .dct ((u7.trans (u8.trans (u9.trans uB))) _ _ upd_same), by decide, fun a e => by cases e; exact n4⟩
          · exact .inl ⟨pj, _, rfl, gj.bs (.same (u9.trans uB)), by rw [List.length_append, List.length_singleton]; omega⟩
      have nlen2 : (n6 ++ [V.ref r1, V.ref r2, V.ref D5, V.ref dk, V.ref pj]).length = 11 := by rw [List.length_append, nlen]; rfl
      have hD0 := hC9.same uB
      have sD0 : BS b g H3 (upd (upd K8 l5 (.lst [.ref r1, .ref r2, .ref D5, .ref dk, .ref pj])) nw2 (.lst (n6 ++ [.ref r1, .ref r2, .ref D5, .ref dk, .ref pj]))) := s36.trans (.same (uA.trans uB))
      have nwD : (upd (upd K8 l5 (.lst [.ref r1, .ref r2, .ref D5, .ref dk, .ref pj])) nw2 (.lst (n6 ++ [.ref r1, .ref r2, .ref D5, .ref dk, .ref pj]))) nw2 = some (.lst (n6 ++ [.ref r1, .ref r2, .ref D5, .ref dk, .ref pj])) := upd_same
      show gName 7 (.ref nw2) _ (upd (upd K8 l5 (.lst [.ref r1, .ref r2, .ref D5, .ref dk, .ref pj])) nw2 (.lst (n6 ++ [.ref r1, .ref r2, .ref D5, .ref dk, .ref pj]))) _
      revert all nlen2 hD0 sD0 nwD
      generalize upd (upd K8 l5 (.lst [.ref r1, .ref r2, .ref D5, .ref dk, .ref pj])) nw2 (.lst (n6 ++ [.ref r1, .ref r2, .ref D5, .ref dk, .ref pj])) = J1
      generalize n6 ++ [V.ref r1, V.ref r2, V.ref D5, V.ref dk, V.ref pj] = n11
      intro all nlen2 hD0 sD0 nwD
      refine ⟨_, rfl, _, rfl, _, rfl, 1, rfl, nw2, _, rfl, .of nwD, fun c nc => ?_⟩
      have w1 := same_upd (o := .lst (cutV n11 none (some 1))) nc
      have cl5 := cut_len (xs := n11) (lo := none) (hi := some 1)
      refine ⟨c, 6, _, rfl, rfl, upd_same, by decide, by decide, Nat.le_trans (Nat.mul_le_mul_right _ (show _ ≤ 11 by omega)) (by decide), fun c2 nc2 => ?_⟩
      have w2 := same_upd (o := .lst (List.replicate (6 : Int).toNat (cutV n11 none (some 1))).flatten) nc2
      have rl := rep_len (6 : Int).toNat (cutV n11 none (some 1))
      have rl2 : (List.replicate (6 : Int).toNat (cutV n11 none (some 1))).flatten.length ≤ 66 := by
        rw [rl, show (6 : Int).toNat = 6 from rfl]; omega
      refine ⟨_, rfl, c2, nw2, _, _, rfl, rfl, upd_same, w2 _ _ (w1 _ _ nwD), Nat.le_trans (show _ ≤ 77 by omega) (by decide), fun c3 nc3 => ?_⟩
      have w3 := same_upd (o := .lst ((List.replicate (6 : Int).toNat (cutV n11 none (some 1))).flatten ++ n11)) nc3
      have w := w1.trans (w2.trans w3)
      have hD3 := hD0.same w
      obtain ⟨c3b, c3g⟩ := (hD0.same (w1.trans w2)).neb nc3
      refine ⟨b, g, c3, _, rfl, hD3, .of upd_same, c3b, c3g, fun z => ?_, by rw [List.length_append]; omega, fun H' v2 bv hBv hv2 => ⟨by show 2 ≤ sizeLine; decide, fun p np => ?_⟩⟩
      · have := congrArg List.length z
        rw [List.length_append, nlen2] at this
        simp at this
      have hv3 : v2 ∈ n11 := by
        rcases List.mem_append.mp hv2 with h | h
        · exact cut_sub (rep_mem h)
        · exact h
      have y1 := same_upd (o := .tup [.str e.1, v2]) np
      exact q _ p (.str e.1) v2 (s03.trans (sD0.trans ((BS.same w).trans ((BS.but bv).trans (.same y1))))) (hBv.same y1) upd_same (gk _) ((all v2 hv3).bs ((BS.same w).trans ((BS.but bv).trans (.same y1))))
end
end L2.My
end
section
set_option Elab.async false
set_option linter.all false
set_option maxRecDepth 100000
set_option maxHeartbeats 4000000
namespace L2.My
open PySem PySem.Spec PyProof.Rows
abbrev sBook : Stmt := top 26
abbrev sDeps : Stmt := top 35
theorem all_below {n : Nat} {is : List Int} (h : ∀ i ∈ is, 0 ≤ i ∧ i < (n : Nat)) : ((is.map (Sum.inl (β := Str))).map kV).all (belowV (n : Nat)) = true := by
  rw [kV_ints, List.all_map]
  exact List.all_eq_true.mpr fun i hi => decide_eq_true (h i hi)
theorem ok1_fits {n : Nat} {e : Ent} (h : Ok1 n e) (hf : e.1 ≠ "fresh") : e.1 ∈ putK9 ∧ fitsT n e.1 (e.2.map kV) = true := by
  cases h with
  | name x h =>
    refine ⟨show ("name" : Str) ∈ putK9 by decide +kernel, ?_⟩
    unfold fitsT
    rw [if_pos rfl]
    exact h
  | num i h0 h1 =>
    refine ⟨show ("number" : Str) ∈ putK9 by decide +kernel, ?_⟩
    unfold fitsT
    rw [if_neg (show ¬ ("number" : Str) = "name" by decide +kernel), if_pos rfl]
    exact decide_eq_true ⟨h0, by omega⟩
  | fresh i _ => exact absurd rfl hf
  | row is hl h =>
    refine ⟨show ("row" : Str) ∈ putK9 by decide +kernel, ?_⟩
    unfold fitsT
    rw [if_neg (show ¬ ("row" : Str) = "name" by decide +kernel), if_neg (show ¬ ("row" : Str) = "number" by decide +kernel), if_pos rfl, all_below h, List.length_map, List.length_map, decide_eq_true hl]
    rfl
  | parts k is hk h =>
    have n1 : ∀ p ∈ sizesK, p.1 ∈ putK9 ∧ p.1 ≠ ("name" : Str) ∧ p.1 ≠ ("number" : Str) ∧ p.1 ≠ ("row" : Str) := by decide +kernel
    obtain ⟨h0, h1, h2, h3⟩ := n1 _ hk
    refine ⟨h0, ?_⟩
    unfold fitsT
    rw [if_neg h1, if_neg h2, if_neg h3, all_below h, List.length_map, List.length_map, decide_eq_true hk]
    rfl
theorem ok1_pt {n : Nat} {e : Ent} {H : Hp} (h : Ok1 n e) : PtOk H (e.2.map kV) := by
  refine ⟨by rw [List.length_map]; have := h.short; omega, fun x hx => ?_, fun x hx z e => ?_⟩
  · obtain ⟨k, _, rfl⟩ := List.mem_map.mp hx
    cases k with
    | inl i => exact ⟨_, .int i⟩
    | inr y => exact ⟨_, .str y⟩
  · have := (ok1_gs (b := 0) (g := 0) (H := H) h x hx).2.2 z e
    exact ⟨this.1, this.2.1⟩
theorem ok1_due {n : Nat} {e : Ent} {H : Hp} {p : Addr} (h : Ok1 n e) (hf : e.1 ≠ "fresh") (hp : H p = some (.tup (e.2.map kV))) : Due H n (.str e.1) (.ref p) (.lets e) :=
  let ⟨a, b⟩ := ok1_fits h hf
  .lets a hp (ok1_pt h) b
/-- the law's account -/
structure LW (es : List Ent) : Prop where
  wf : WF (cntF es : Nat) es
  fr : ∀ (i : Nat) (e : Ent), es[i]? = some e → e.1 = "fresh" → e = freshE (es.take i)
def spBook (P : Program) (w : World) (C : Addr) : Sp := fun vs H Q _ => ∃ l es, vs = [.ref l] ∧ EntsAt H l es ∧ LW es ∧ es.length ≤ 1000 ∧ ∀ H' B, Same H H' → (∀ p ∈ B.foot, H p = none) → BookAt P w H' C B es → Q (.ref B.b) H'
section
variable {P : Program} {w : World} {K : PySem.W.Frag} {mg : Str → Option Value} {base : Heap} {C C0 C1 : Addr}
theorem scBook : FnScope ["entries", "book", "kind", "parts"] ["entries"] (defScope sBook) := ⟨rfl, rfl, rfl, by decide +kernel, rfl, by decide +kernel, by decide +kernel⟩
theorem ok_book {f fI fF fP : Addr} {fd fdI fdF fdP : FuncData} {k : Nat} (F : Fun K "_law_book" "_law_book" sBook f fd) (c : BkC K C) (gB : mg "Book" = some (.ref C)) (M : Mk K C fI)
    (GI : FnOk P w K mg base CX0 (k + 1) fI fdI ["self"] (spInit P w C)) (bI : Binds K fdI ["self"] [])
    (GF : FnOk P w K mg base CX0 (k + 3) fF fdF ["self"] (spFresh P w C)) (mF : Meth K C "fresh" fF) (bF : Binds K fdF ["self"] [])
    (GP : FnOk P w K mg base (CX P w) (k + 4) fP fdP ["self", "kind", "parts"] (spPut P w C C0 C1)) (mP : Meth K C "put" fP) (bP : Binds K fdP ["self", "kind", "parts"] []) : FnOk P w K mg base CX0 (k + 5) f fd ["entries"] (spBook P w C) := by
  refine F.ok scBook (fun vs H Q E h => ?_) (fun cdv A outer s H vs Q E hr h => ?_)
  · obtain ⟨l, es, rfl, _⟩ := h
    rfl
  · obtain ⟨l, es, rfl, hE, lw, hlen, q⟩ := h
    refine ⟨_, pss_cons (ps_set (i := 1) scBook.nd rfl (Or.inl rfl) (pe_make0 M GI (hr.mono (by omega)) (by rfl) gB bI .nil pass0))
      (pss_cons (ps_for PassesOwn.never rfl (pi_list (pv 0)) (pg_tup rfl (pgs_cons (pg_name (i := 2) scBook.nd rfl (Or.inl rfl)) (pgs_cons (pg_name (i := 3) scBook.nd rfl (Or.inl rfl)) pgs_nil)))
        (pss_one (ps_if (pt_cmpR op_eq (pv 2) pe_str (nomark _)) (pss_one (ps_expr (pe_meth0 (pv 1) c.cls mF GF (hr.mono (by omega)) bF .nil pass0)))
          (pss_one (ps_expr (pe_meth (pv 1) c.cls mP GP hr bP .nil passL (pa_cons (pv 2) (pa_cons (pv 3) pa_nil))))))))
      (pss_one (ps_ret (pv 1)))), ?_⟩
    obtain ⟨qs, hqs, hql, hqe⟩ := hE.get
    intro x dx nx ndx hne
    refine ⟨x, dx, rfl, upd_same, ?_⟩
    rintro G1 B rfl rfl bl0 hp0 hB0
    refine ⟨rfl, ?_⟩
    have s1 : Same H G1 := fun y o e => by
      have h1 : y ≠ B.b := ne_of_none e nx
      have h2 : y ≠ B.dx := ne_of_none e ndx
      exact bl0 y o (by simp [h1]) (by rw [upd_ne h1, upd_ne h2]; exact e)
    have ft : ∀ p ∈ B.foot, H p = none := by
      have fr : ∀ {p : Addr}, p ∈ [B.lk, B.lp, B.ld, B.dn] → H p = none := fun {p} hp => by
        have := hp0 p hp
        cases e : H p with
        | none => rfl
        | some o =>
          have h1 : p ≠ B.b := ne_of_none e nx
          have h2 : p ≠ B.dx := ne_of_none e ndx
          rw [upd_ne h1, upd_ne h2, e] at this
          cases this
      intro p hp
      simp only [BP.foot, List.mem_cons, List.not_mem_nil, or_false] at hp
      rcases hp with rfl | rfl | rfl | rfl | rfl
      · exact nx
      · exact fr (by simp)
      · exact fr (by simp)
      · exact fr (by simp)
      · exact fr (by simp)
    refine ⟨_, rfl, l, rfl, ⟨_, .of (s1 _ _ hqs)⟩, ?_⟩
    refine for_it walk_list (fun i σ G => ∃ x y, σ = [some (.ref l), some (.ref B.b), x, y] ∧ Same H G ∧ BookAt P w G C B (es.take i)) ⟨none, none, rfl, s1, hB0⟩ (fun i σ G _ h => by
        obtain ⟨x, y, rfl, sm, _⟩ := h
        exact .of (sm _ _ hqs)) ?_ ?_
    · rintro i z σ G G' hi ⟨x, y, rfl, sm, hB⟩ ⟨rfl, hz⟩
      rw [List.length_map, hql] at hi
      obtain ⟨qa, hqa, p, hp1, hp2⟩ := hqe i _ (List.getElem?_eq_getElem hi)
      rw [List.getElem?_map, hqa] at hz
      cases hz
      refine ⟨qa, _, rfl, .of (sm _ _ hp1), rfl, _, _, rfl, _, _, rfl, rfl, ?_⟩
      refine ⟨_, rfl, rfl, _, rfl, ?_⟩
      rw [strV]
      have lt : (es.take i).length = i := by rw [List.length_take]; omega
      have nxt : es.take (i + 1) = es.take i ++ [es[i]] := by rw [List.take_add_one, List.getElem?_eq_getElem hi]; rfl
      have keep : ∀ {G2 : Hp}, BL B.foot G' G2 → Same H G2 := fun bl y o e => bl y o (fun hy => by rw [ft y hy] at e; cases e) (sm _ _ e)
      by_cases hf : es[i].1 = ("fresh" : Str)
      · rw [decide_eq_true hf]
        refine iteT ⟨_, rfl, B.b, B.dx, _, rfl, hB.ins, rfl, B, _, rfl, hB, by omega, fun G2 bl hB2 => ?_⟩
        have e := lw.fr i _ (List.getElem?_eq_getElem hi) hf
        rw [← e, ← nxt] at hB2
        exact ⟨_, _, rfl, keep bl, hB2⟩
      · rw [decide_eq_false hf]
        refine iteF ⟨_, rfl, B.b, B.dx, _, rfl, hB.ins, rfl, _, rfl, _, rfl, ?_⟩
        have ok := lw.wf.ok i _ (List.getElem?_eq_getElem hi)
        have hnum : numE (es.take i) es[i] = none := numE_none fun hm => by
          obtain ⟨j, hj, hje⟩ := List.mem_iff_getElem.mp hm
          rw [lt] at hj
          rw [List.getElem_take] at hje
          have := (List.getElem_inj lw.wf.nd).mp hje
          omega
        refine ⟨B, _, _, _, .lets es[i], rfl, hB, by rw [lt]; exact ok1_due ok hf (sm _ _ hp2), by omega, fun j hj => (by rw [hnum] at hj; cases hj), fun _ G2 bl hB2 => ?_⟩
        rw [← nxt] at hB2
        exact ⟨_, _, rfl, keep bl, hB2⟩
    · rintro σ G ⟨x, y, rfl, sm, hB⟩
      rw [List.length_map, hql, List.take_length] at hB
      exact ⟨_, rfl, q G B sm ft hB⟩
end
end L2.My
end
section
set_option Elab.async false
set_option linter.all false
set_option maxRecDepth 100000
set_option maxHeartbeats 4000000
namespace L2.My
open PySem PySem.Spec PyProof.Rows
def spDeps : Sp := fun vs H Q _ => ∃ l es, vs = [.ref l] ∧ EntsAt H l es ∧ Wf0 es ∧ es.length ≤ 1000 ∧ ∀ H' D, ∀ ds : List Int, Same H H' → H D = none → H' D = some (.lst (ds.map .int)) → DepOk es ds → Q (.ref D) H'
section
variable {P : Program} {w : World} {K : PySem.W.Frag} {mg : Str → Option Value} {base : Heap}
theorem scDeps : FnScope ["entries", "found", "entry", "part"] ["entries"] (defScope sDeps) := ⟨rfl, rfl, rfl, by decide +kernel, rfl, by decide +kernel, by decide +kernel⟩
theorem ok_deps {f fI : Addr} {fd fdI : FuncData} {k : Nat} (F : Fun K "_law_depths" "_law_depths" sDeps f fd) (T : PlTxt mg)
    (GI : FnOk P w K mg base CX0 (k + 1) fI fdI ["entry"] spInn) (kI : PySem.W.keepIn K (.ref fI) = true) (gI : mg "_law_inner" = some (.ref fI)) (bI : Binds K fdI ["entry"] []) : FnOk P w K mg base CX0 (k + 2) f fd ["entries"] spDeps := by
  refine F.ok scDeps (fun vs H Q E h => ?_) (fun cdv A outer s H vs Q E hr h => ?_)
  · obtain ⟨l, es, rfl, _⟩ := h
    rfl
  · obtain ⟨l, es, rfl, hE, wf, hlen, q⟩ := h
    refine ⟨_, pss_cons (ps_set (i := 1) scDeps.nd rfl (Or.inr rfl) (pe_lst pa_nil))
      (pss_cons (ps_for PassesOwn.never rfl (pi_list (pv 0)) (pg_name (i := 2) scDeps.nd rfl (Or.inl rfl))
        (pss_one (ps_expr (pe_bm PySem.F.plainAttrs_list PySem.F.slot_list_append PySem.F.type_list_append mt_append (pv 1) (pa_cons (pe_op op_add pe_int
          (pe_callB (cr_max rfl) (by rfl) T.max_ (by decide +kernel) (pa_cons (pe_op op_cat (pe_lc (te := tOp (rIxL K) (tVar 1) (tVar 3)) (own := [("part", 3)]) (g := gName 3) rfl scDeps.nd (pi_tup (pe_call GI hr (by rfl) gI kI bI .nil pass0 (pa_cons (pv 2) pa_nil)))
            (blkOk_by (N := ["entries", "found", "entry", "part"]) (sc := defScope sDeps) (by decide +kernel)) (fun _ _ _ _ _ => pg_name (i := 3) scDeps.nd rfl (Or.inl rfl)) (fun _ _ _ _ _ => pts_nil)
            (fun _ _ _ _ _ => pe_ix ix_list (pv 1) (pv 3) (fun _ _ => rfl))) (pe_lst (pa_cons pe_int pa_nil))) pa_nil))) pa_nil)))))
      (pss_one (ps_ret (pv 1)))), ?_⟩
    obtain ⟨qs, hqs, hql, hqe⟩ := hE.get
    refine ⟨by show 0 ≤ sizeLine; decide, fun D nD => ?_⟩
    have s1 : Same H (upd H D (.lst [])) := same_upd nD
    refine ⟨_, rfl, l, rfl, ⟨_, .of (s1 _ _ hqs)⟩, ?_⟩
    refine for_it walk_list (fun i σ G => ∃ x y, ∃ ds : List Int, σ = [some (.ref l), some (.ref D), x, y] ∧ Same H G ∧ G D = some (.lst (ds.map .int)) ∧ DepOk (es.take i) ds) ⟨none, none, [], rfl, s1, upd_same, rfl, fun i e he => (by simp at he)⟩ (fun i σ G _ h => by
        obtain ⟨x, y, ds, rfl, sm, _⟩ := h
        exact .of (sm _ _ hqs)) ?_ ?_
    · rintro i z σ G G' hi ⟨x, y, ds, rfl, sm, gD, dep⟩ ⟨rfl, hz⟩
      rw [List.length_map, hql] at hi
      have hei := List.getElem?_eq_getElem hi
      obtain ⟨qa, hqa, hent⟩ := hqe i _ hei
      rw [List.getElem?_map, hqa] at hz
      cases hz
      have lt : (es.take i).length = i := by rw [List.length_take]; omega
      have nxt : es.take (i + 1) = es.take i ++ [es[i]] := by rw [List.take_add_one, hei]; rfl
      have ok1 := wf i _ hei
      have inl := ok1.inner_lt
      have dl : ds.length = i := by rw [dep.1, lt]
      have sh := inner_le ok1
      refine ⟨_, rfl, .inl ⟨rfl, _, .of gD⟩, ?_⟩
      refine ⟨_, rfl, qa, es[i], rfl, hent.keep fun b xs e => sm _ _ e, ⟨_, ok1⟩, fun G3 qi s3 hqi => ?_⟩
      refine ⟨qi, rfl, ⟨_, .of hqi⟩, fun D2 nD2 => ?_⟩
      refine lcP walk_tup (fun j => V.int (ds.getD ((inner es[i]).getD j 0).toNat 0)) (by rw [List.length_map]; exact Nat.lt_of_le_of_lt sh (by decide)) nD2 (fun _ sm => seqT sm (.of hqi)) ?_ ?_
      · rintro j y2 K1 K2 Q' hj sm2 ⟨rfl, hy⟩ hQ
        refine ⟨rfl, ?_⟩
        rw [List.length_map] at hj
        rw [List.getElem?_map, List.getElem?_eq_getElem hj] at hy
        cases hy
        have e : (inner es[i]).getD j 0 = (inner es[i])[j] := by rw [List.getD_eq_getElem?_getD, List.getElem?_eq_getElem hj]; rfl
        rw [e] at hQ
        have lt2 := inl _ (List.getElem_mem hj)
        generalize (inner es[i])[j] = n at *
        obtain ⟨m, rfl⟩ : ∃ m : Nat, n = (m : Int) := ⟨n.toNat, (Int.toNat_of_nonneg lt2.1).symm⟩
        have hm : m < ds.length := by omega
        have e' : ds.getD (m : Int).toNat 0 = ds[m] := by rw [List.getD_eq_getElem?_getD, Int.toNat_natCast, List.getElem?_eq_getElem hm]; rfl
        rw [e'] at hQ
        exact ⟨_, rfl, _, rfl, D, _, _, _, rfl, rfl, .of (sm2 _ _ (s3 _ _ gD)), atI_nat (j := m) (by rw [List.getElem?_map, List.getElem?_eq_getElem hm]; rfl), hQ _ (Same.refl _)⟩
      · intro G4 s4 hD4
        have en : (List.range ((inner es[i]).map V.int).length).map (fun j => V.int (ds.getD ((inner es[i]).getD j 0).toNat 0)) = ((inner es[i]).map fun p => ds.getD p.toNat 0).map V.int := by
          rw [List.length_map, List.map_map]
          exact range_getD (inner es[i]) 0 (fun p => V.int (ds.getD p.toNat 0))
        rw [en] at hD4
        refine ⟨by show 1 ≤ sizeLine; decide, fun z1 nz1 => ?_⟩
        have s5 := same_upd (o := .lst [.int 0]) nz1
        refine ⟨D2, z1, _, _, rfl, rfl, s5 _ _ hD4, upd_same, ?_, fun z2 nz2 => ?_⟩
        · rw [List.length_map, List.length_map]
          exact Nat.le_trans (Nat.add_le_add_right sh _) (by show 400 + 1 ≤ sizeLine; decide)
        have s6 := same_upd (o := .lst (((inner es[i]).map fun p : Int => ds.getD p.toNat 0).map V.int ++ [.int 0])) nz2
        have em : ((inner es[i]).map fun p : Int => ds.getD p.toNat 0).map V.int ++ [.int 0] = (((inner es[i]).map fun p : Int => ds.getD p.toNat 0) ++ [0]).map V.int := by rw [List.map_append]; rfl
        refine ⟨z2, ((inner es[i]).map fun p : Int => ds.getD p.toNat 0) ++ [0], rfl, .of (by rw [← em]; exact upd_same), by rw [List.length_append]; simp, fun m hm hy => ?_⟩
        have s36 := s3.trans (s4.trans (s5.trans s6))
        have big : (2000 : Nat) ≤ sizeLine := by decide
        refine ⟨_, _, rfl, rfl, D, _, _, rfl, rfl, s36 _ _ gD, by rw [List.length_map]; omega, ?_⟩
        have mx : IsMax0 ((inner es[i]).map fun p : Int => ds.getD p.toNat 0) m := by
          refine ⟨?_, hy 0 (by simp), fun y h => hy y (List.mem_append_left _ h)⟩
          rcases List.mem_append.mp hm with h | h
          · exact .inr h
          · rw [List.mem_singleton] at h; exact .inl h
        have dep2 := dep.snoc (m := m) (e := es[i]) (fun j e he => wf j e (by
          have hj := (List.getElem?_eq_some_iff.mp he).1
          rw [lt] at hj
          rw [List.getElem?_take_of_lt hj] at he
          exact he)) (by rw [lt]; exact ok1) mx
        rw [← nxt] at dep2
        exact ⟨_, _, ds ++ [1 + m], rfl, same_grow s36 nD sm, by rw [upd_same, List.map_append]; rfl, dep2⟩
    · rintro σ G ⟨x, y, ds, rfl, sm, gD, dep⟩
      rw [List.length_map, hql, List.take_length] at dep
      exact ⟨_, rfl, q G D ds sm nD gD dep⟩
end
end L2.My
end
section
set_option Elab.async false
set_option linter.all false
set_option maxRecDepth 100000
set_option maxHeartbeats 4000000
namespace L2.My
open PySem PySem.Spec PyProof.Rows LamX
abbrev sWord : Stmt := top 30
abbrev nWord : List Str := ["asked", "found", "e", "flags"]
/-- a block's reading, told otherwise, its slots counted -/
theorem pss_imp {X : Cx} {st : List Stmt} {t t' : TS} (n : Nat) (hn : X.N.length = n) (h : PSs X st t) (hi : ∀ D σ H, σ.length = n → t' D σ H → t D σ H) : PSs X st t' := ⟨fun pins s σ H D I hw => h.run pins s σ H D I (hi D σ H (I.len.trans hn) hw)⟩
structure WordTxt (K : PySem.W.Frag) (mg : Str → Option Value) (P C0 C1 C2 C3 : Addr) : Prop where
  isi : mg "isinstance" = none
  ve : mg "ValueError" = none
  gP : mg "PostError" = some (.ref P)
  g0 : mg "NoKind" = some (.ref C0)
  g1 : mg "NoParts" = some (.ref C1)
  g2 : mg "NoTerm" = some (.ref C2)
  g3 : mg "NoTerms" = some (.ref C3)
  xc : ∀ C ∈ [C0, C1, C2, C3], XC K C
  nd : [C0, C1, C2, C3].Nodup
  kit : ∀ C ∈ [C0, C1, C2, C3], ∀ D ∈ [C0, C1, C2, C3], PySem.W.kitOne K (.ref C) (.ref D) = some (decide (C = D))
  kitV : ∀ C ∈ [C0, C1, C2, C3], PySem.W.kitOne K (.ref C) (.type "ValueError") = some true
  exm : ∀ C ∈ [C0, C1, C2, C3], PySem.W.exmOne K (.ref C) (.ref P) = some true
def wordsOf (C0 C1 C2 C3 : Addr) : List (Addr × Str) := [(C0, "kind"), (C1, "parts"), (C2, "term"), (C3, "terms")]
/-- what _law_word makes of the lambda's reading -/
def TWord (ws : List (Addr × Str)) : (XK → Hp → VK → Prop) → Hp → VK → Prop := fun tl H Q =>
  tl (fun cls d H' => ∃ D w, (D, w) ∈ ws ∧ cls = .ref D ∧ d = none ∧ ∀ p H2, Same H' H2 → H' p = none → H2 p = some (.tup [.str w, .non]) → Q (.ref p) H2) H (fun v H' => 2 ≤ sizeLine ∧ ∀ p, H' p = none → ∃ x, some (some (V.ref p)) = some (some x) ∧ Q x (upd H' p (.tup [.str "let", v])))
theorem scWord : FnScope nWord ["asked"] (defScope sWord) := ⟨rfl, rfl, rfl, by decide +kernel, rfl, by decide +kernel, by decide +kernel⟩
def tSuite (ws : List (Addr × Str)) (a : Addr) (cls : Value) (d : Option Addr) : TS := fun D σ H => ∃ C w, (C, w) ∈ ws ∧ cls = .ref C ∧ d = none ∧ (σ.length = 4 → σ[2]? = some (some (.ref a))) ∧ ∀ p fl y H2, σ.length = 4 → Same H H2 → H p = none → H2 p = some (.tup [.str w, .non]) → D.nx (((σ.set 3 (some fl)).set 1 (some y)).set 1 (some (.ref p))) H2
theorem len4 {α : Type} {l : List α} (h : l.length = 4) : ∃ x0 x1 x2 x3, l = [x0, x1, x2, x3] := by
  match l, h with
  | [x0, x1, x2, x3], _ => exact ⟨x0, x1, x2, x3, rfl⟩
theorem word_gives {X : Cx} {q : Str} {g P C0 C1 C2 C3 : Addr} {cdg : Value} (T : WordTxt X.K X.mg P C0 C1 C2 C3) : GivesTo X nWord "_law_word" (defScope sWord) g cdg (defBody sWord) "asked" q (TWord (wordsOf C0 C1 C2 C3)) := by
  intro f c' s H Q tl act hc h
  refine ⟨_, pss_cons (ps_try_as (X := (cxOf C8.CX0 X.prog X.w X.K X.mg X.base nWord "_law_word" (defScope sWord) g cdg X.A X.stack s H C8.E0).nox) (i := 2) (c := .ref P) (ts := tSuite (wordsOf C0 C1 C2 C3))
      (tb := fun W D σ H => ∃ Ech : XK, (∀ cls d σ' H', Ech cls d H' → W cls d σ' H') ∧ tAsg (tTup (tCons (tC (.str "let")) (tCons (fun σZ HZ Q => σZ[0]? = some (some (.ref f)) ∧ HZ c' = some (CodeO c' q) ∧ tl Ech HZ Q) tNil))) (gName 1) D σ H)
      rfl rfl scWord.nd rfl rfl ⟨rfl, rfl, .inl T.gP⟩ takes0 (fun W pn xe tk _ => ?_) (fun a oe cls d pn hz hf => pss_imp 4 rfl (pss_cons (ps_set (i := 3) scWord.nd rfl (Or.inl rfl) (pe_lst (pa_cons
          (pe_callB (call_isC (X := (cxOf C8.CX0 X.prog X.w X.K X.mg X.base nWord "_law_word" (defScope sWord) g cdg X.A X.stack s H C8.E0).nox) hz hf) (by rfl) T.isi (by decide +kernel) (pa_cons (pv 2) (pa_cons (pe_glob (v := .ref C0) (by rfl) T.g0 rfl) pa_nil))) (pa_cons
          (pe_callB (call_isC (X := (cxOf C8.CX0 X.prog X.w X.K X.mg X.base nWord "_law_word" (defScope sWord) g cdg X.A X.stack s H C8.E0).nox) hz hf) (by rfl) T.isi (by decide +kernel) (pa_cons (pv 2) (pa_cons (pe_glob (v := .ref C1) (by rfl) T.g1 rfl) pa_nil))) (pa_cons
          (pe_callB (call_isC (X := (cxOf C8.CX0 X.prog X.w X.K X.mg X.base nWord "_law_word" (defScope sWord) g cdg X.A X.stack s H C8.E0).nox) hz hf) (by rfl) T.isi (by decide +kernel) (pa_cons (pv 2) (pa_cons (pe_glob (v := .ref C2) (by rfl) T.g2 rfl) pa_nil))) (pa_cons
          (pe_callB (call_isC (X := (cxOf C8.CX0 X.prog X.w X.K X.mg X.base nWord "_law_word" (defScope sWord) g cdg X.A X.stack s H C8.E0).nox) hz hf) (by rfl) T.isi (by decide +kernel) (pa_cons (pv 2) (pa_cons (pe_glob (v := .ref C3) (by rfl) T.g3 rfl) pa_nil))) pa_nil))))))
        (pss_cons (ps_set (i := 1) scWord.nd rfl (Or.inl rfl) (pe_tup (pa_cons pe_str (pa_cons pe_non pa_nil))))
        (pss_one (ps_if (pt_and (pt_cmpR op_eq (pe_bm PySem.F.plainAttrs_list PySem.F.slot_list_count PySem.F.type_list_count mt_lcountB (pv 3) (pa_cons pe_bl pa_nil)) pe_int (nomark _))
            (pw_and1 (pt_val (pe_callB (call_isC (X := (cxOf C8.CX0 X.prog X.w X.K X.mg X.base nWord "_law_word" (defScope sWord) g cdg X.A X.stack s H C8.E0).nox) hz hf) (by rfl) T.isi (by decide +kernel) (pa_cons (pv 2) (pa_cons (pe_bltn (v := .ty "ValueError") (u := .type "ValueError") (by rfl) T.ve (by decide +kernel) rfl) pa_nil))))))
          (pss_one (ps_set (i := 1) scWord.nd rfl (Or.inl rfl) (pe_tup (pa_cons (pe_ix ix_list (pe_lst (pa_cons pe_str (pa_cons pe_str (pa_cons pe_str (pa_cons pe_str pa_nil)))))
            (pe_bm PySem.F.plainAttrs_list PySem.F.slot_list_index PySem.F.type_list_index mt_index (pv 3) (pa_cons pe_bl pa_nil)) (fun _ _ => rfl)) (pa_cons pe_non pa_nil))))) pss_nil)))) ?_))
    (pss_one (ps_ret (pv 1))), ?_⟩
  · refine ⟨fun pins s' σ H' D I h' => ?_⟩
    obtain ⟨Ech, hW, h1⟩ := h'
    exact (pss_one (ps_set (i := 1) scWord.nd rfl (Or.inl rfl) (pe_tup (pa_cons pe_str (pa_cons (act W pn xe Ech _ _ tk hW) pa_nil))))).run pins s' σ H' D I h1
  · rintro D σ H2 hl ⟨C, w, hm, rfl, rfl, e2, q2⟩
    have e2 := e2 hl
    have q2 := fun p fl y H3 => q2 p fl y H3 hl
    obtain ⟨x0, x1, x2, x3, rfl⟩ := len4 hl
    obtain rfl : x2 = some (.ref a) := Option.some.inj e2
    have hC : C ∈ [C0, C1, C2, C3] := by
      simp only [wordsOf, List.mem_cons, List.not_mem_nil, or_false, Prod.mk.injEq] at hm
      rcases hm with ⟨e, _⟩ | ⟨e, _⟩ | ⟨e, _⟩ | ⟨e, _⟩ <;> rw [e] <;> simp
    have xc := (T.xc C hC).exc
    refine ⟨_, rfl, C, _, .ref C0, _, rfl, rfl, xc, rfl, fun u r => r, T.kit C hC C0 (by simp), ?_⟩
    refine ⟨_, rfl, C, _, .ref C1, _, rfl, rfl, xc, rfl, fun u r => r, T.kit C hC C1 (by simp), ?_⟩
    refine ⟨_, rfl, C, _, .ref C2, _, rfl, rfl, xc, rfl, fun u r => r, T.kit C hC C2 (by simp), ?_⟩
    refine ⟨_, rfl, C, _, .ref C3, _, rfl, rfl, xc, rfl, fun u r => r, T.kit C hC C3 (by simp), ?_⟩
    obtain ⟨j, bs, nm, hbs, hct, hj, hno, hw⟩ : ∃ (j : Nat) (bs : List Bool) (nm : List Str), bs = [decide (C = C0), decide (C = C1), decide (C = C2), decide (C = C3)] ∧ bs.count true = 1 ∧ bs[j]? = some true ∧ (∀ m, m < j → bs[m]? = some false) ∧ (["kind", "parts", "term", "terms"] : List Str)[j]? = some w := by
      have nd := T.nd
      simp only [List.nodup_cons, List.mem_cons, List.not_mem_nil, or_false, not_or, List.nodup_nil, and_true, not_false_eq_true] at nd
      obtain ⟨⟨n01, n02, n03⟩, ⟨n12, n13⟩, n23⟩ := nd
      simp only [wordsOf, List.mem_cons, List.not_mem_nil, or_false, Prod.mk.injEq] at hm
      rcases hm with ⟨rfl, rfl⟩ | ⟨rfl, rfl⟩ | ⟨rfl, rfl⟩ | ⟨rfl, rfl⟩
      · exact ⟨0, _, [], rfl, by simp [n01, n02, n03], by simp, fun m h => by omega, rfl⟩
      · refine ⟨1, _, [], rfl, by simp [Ne.symm n01, n12, n13], by simp, fun m h => ?_, rfl⟩
        match m, h with
        | 0, _ => simp [Ne.symm n01]
      · refine ⟨2, _, [], rfl, by simp [Ne.symm n02, Ne.symm n12, n23], by simp, fun m h => ?_, rfl⟩
        match m, h with
        | 0, _ => simp [Ne.symm n02]
        | 1, _ => simp [Ne.symm n12]
      · refine ⟨3, _, [], rfl, by simp [Ne.symm n03, Ne.symm n13, Ne.symm n23], by simp, fun m h => ?_, rfl⟩
        match m, h with
        | 0, _ => simp [Ne.symm n03]
        | 1, _ => simp [Ne.symm n13]
        | 2, _ => simp [Ne.symm n23]
    refine ⟨by show 4 ≤ sizeLine; decide, fun p1 n1 => ?_⟩
    rw [show ([V.bl (decide (C = C0)), V.bl (decide (C = C1)), V.bl (decide (C = C2)), V.bl (decide (C = C3))] : List V) = bs.map V.bl by rw [hbs]; rfl]
    have s1 : Same H2 (upd H2 p1 (.lst (bs.map V.bl))) := same_upd n1
    refine ⟨by show 2 ≤ sizeLine; decide, fun p2 n2 => ?_⟩
    have s2 := same_upd (o := .tup [.str "other", .non]) n2
    have hF := s2 _ _ (upd_same (H := H2) (a := p1) (o := .lst (bs.map V.bl)))
    refine ⟨_, rfl, .inl ⟨rfl, _, .of hF⟩, p1, bs, rfl, rfl, .of hF, rfl, _, rfl, ?_⟩
    rw [hct]
    refine iteT ?_
    refine ⟨_, rfl, C, _, .type "ValueError", _, rfl, rfl, xc, rfl, fun u r => r, T.kitV C hC, _, rfl, ?_⟩
    refine iteT ?_
    refine ⟨by show 4 ≤ sizeLine; decide, fun p3 n3 => ?_⟩
    have s3 := same_upd (o := .lst [.str "kind", .str "parts", .str "term", .str "terms"]) n3
    have hF3 := s3 _ _ hF
    refine ⟨_, rfl, .inl ⟨rfl, _, .of hF3⟩, p1, bs.map V.bl, .bl true, j, .bl true, rfl, rfl, .of hF3, rfl, ?_, ?_, rfl, ?_, ?_⟩
    · rw [List.all_map]
      exact List.all_eq_true.mpr fun b _ => rfl
    · rw [List.getElem?_map, hj]
      rfl
    · intro m z hmj hz
      rw [List.getElem?_map, hno m hmj] at hz
      cases hz
      rfl
    · refine ⟨p3, _, _, .str w, rfl, rfl, .of upd_same, atI_nat (j := j) ?_, ?_⟩
      · have e4 : ([V.str "kind", V.str "parts", V.str "term", V.str "terms"] : List V) = (["kind", "parts", "term", "terms"] : List Str).map V.str := rfl
        rw [e4, List.getElem?_map, hw]
        rfl
      · refine ⟨by show 2 ≤ sizeLine; decide, fun p4 n4 => ?_⟩
        have s4 := same_upd (o := .tup [.str w, .non]) n4
        have sa := s1.trans (s2.trans (s3.trans s4))
        exact q2 p4 _ _ _ sa (s1.free (s2.free (s3.free n4))) upd_same
  · refine ⟨fun cls d H' => ∃ D w, (D, w) ∈ wordsOf C0 C1 C2 C3 ∧ cls = .ref D ∧ d = none ∧ ∀ p H2, Same H' H2 → H' p = none → H2 p = some (.tup [.str w, .non]) → Q (.ref p) H2, ?_, rfl, hc, ?_⟩
    · rintro cls d σ' H' ⟨C, w, hm, rfl, rfl, q2⟩
      have hC : C ∈ [C0, C1, C2, C3] := by
        simp only [wordsOf, List.mem_cons, List.not_mem_nil, or_false, Prod.mk.injEq] at hm
        rcases hm with ⟨e, _⟩ | ⟨e, _⟩ | ⟨e, _⟩ | ⟨e, _⟩ <;> rw [e] <;> simp
      refine ⟨true, T.exm C hC, fun _ a ha => ⟨C, w, hm, rfl, rfl, fun hl => ?_, fun p fl y H2 hl s2 np h2 => ?_⟩, fun z => nomatch z⟩
      · rw [List.length_set] at hl
        obtain ⟨x0, x1, x2, x3, rfl⟩ := len4 hl
        rfl
      · rw [List.length_set] at hl
        obtain ⟨x0, x1, x2, x3, rfl⟩ := len4 hl
        exact ⟨.ref p, rfl, q2 p H2 s2 np h2⟩
    · have h2 : tl (fun cls d H' => ∃ D w, (D, w) ∈ wordsOf C0 C1 C2 C3 ∧ cls = .ref D ∧ d = none ∧ ∀ p H2, Same H' H2 → H' p = none → H2 p = some (.tup [.str w, .non]) → Q (.ref p) H2) H (fun v H' => 2 ≤ sizeLine ∧ ∀ p, H' p = none → ∃ x, some (some (V.ref p)) = some (some x) ∧ Q x (upd H' p (.tup [.str "let", v]))) := h
      exact h2
end L2.My
end
section
set_option Elab.async false
set_option linter.all false
set_option maxRecDepth 100000
set_option maxHeartbeats 4000000
namespace L2.My
open PySem PySem.Spec PyProof.Rows LamX
/-- all but L and the tables stays -/
def FX (L : List Addr) (H H' : Hp) : Prop := ∀ p o, p ∉ L → H p = some o → (∀ ps, o ≠ .tbl ps) → H' p = some o
theorem FX.refl {L : List Addr} {H : Hp} : FX L H H := fun _ _ _ h _ => h
theorem FX.trans {L : List Addr} {H H1 H2 : Hp} (x : FX L H H1) (y : FX L H1 H2) : FX L H H2 := fun p o h e n => y p o h (x p o h e n) n
theorem FX.same {L : List Addr} {H H' : Hp} (s : Same H H') : FX L H H' := fun p o _ e _ => s _ _ e
theorem FX.ext {L : List Addr} {H H' : Hp} (s : ExtN H H') : FX L H H' := fun p o _ e n => s _ _ e n
theorem FX.bs {L : List Addr} {b g : Addr} {H H' : Hp} (s : BS b g H H') (hb : b ∈ L) (hg : g ∈ L) : FX L H H' := fun p o h e _ => s.1 p o (fun z => h (z ▸ hb)) (fun z => h (z ▸ hg)) e
theorem FX.bl {L M : List Addr} {H H' : Hp} (s : BL M H H') (h : ∀ p ∈ M, p ∈ L) : FX L H H' := fun p o hp e _ => s p o (fun z => hp (h p z)) e
theorem FX.upd {L : List Addr} {H : Hp} {p : Addr} {o : HO} (h : p ∈ L) : FX L H (upd H p o) := fun q u hq e _ => by
  rw [upd_ne (fun z => hq (by rw [z]; exact h))]; exact e
theorem FX.tup {L : List Addr} {H H' : Hp} (s : FX L H H') (hL : ∀ p ∈ L, ∀ xs, H p ≠ some (.tup xs)) {b : Addr} {xs : List V} (e : H b = some (.tup xs)) : H' b = some (.tup xs) := s b _ (fun z => hL b z xs e) e (fun ps z => nomatch z)
section
variable {P : Program} {w : World} {H H' : Hp} {C : Addr} {B : BP} {n : Int} {es : List Ent} {L : List Addr}
theorem BookN.nt (h : BookN P w H C B n es) : ∀ p ∈ B.foot, ∃ o, H p = some o ∧ ∀ ps, o ≠ .tbl ps := by
  obtain ⟨a1, a2, ⟨ps, a3, a3'⟩, ⟨ds, a4, a4'⟩, ⟨kvs, ⟨a5, a6⟩, a5'⟩, a7, a8, a9⟩ := h
  intro p hp
  simp only [BP.foot, List.mem_cons, List.not_mem_nil, or_false] at hp
  rcases hp with rfl | rfl | rfl | rfl | rfl
  · exact ⟨_, a1, fun ps z => nomatch z⟩
  · exact ⟨_, a2, fun ps z => nomatch z⟩
  · exact ⟨_, a3, fun ps z => nomatch z⟩
  · exact ⟨_, a4, fun ps z => nomatch z⟩
  · exact ⟨_, a5, fun ps z => nomatch z⟩
theorem BookN.fx (h : BookN P w H C B n es) (s : FX L H H') (hd : ∀ p ∈ B.foot, p ∉ L) (hL : ∀ p ∈ L, ∀ xs, H p ≠ some (.tup xs)) : BookN P w H' C B n es :=
  h.keep (fun p hp => by
    obtain ⟨o, ho, hn⟩ := h.nt p hp
    rw [ho, s p o (hd p hp) ho hn]) fun b xs e => s.tup hL e
theorem EntsAt.fx {l : Addr} (h : EntsAt H l es) (s : FX L H H') (hd : l ∉ L) (hL : ∀ p ∈ L, ∀ xs, H p ≠ some (.tup xs)) : EntsAt H' l es := by
  obtain ⟨qs, h1, _⟩ := id h
  exact h.keep (by rw [h1, s l _ hd h1 (fun ps z => nomatch z)]) fun b xs e => s.tup hL e
theorem BagAt.fx {b g : Addr} (h : BagAt H b g) (s : FX L H H') (hb : b ∉ L) (hg : g ∉ L) : BagAt H' b g := by
  obtain ⟨ne, ns, sd, m, c, h1, h2, h3⟩ := h
  exact ⟨ne, ns, sd, m, c, s _ _ hb h1 (fun ps z => nomatch z), s _ _ hg h2 (fun ps z => nomatch z), h3⟩
/-- a thing stands behind a change of the book -/
theorem ThT.put {v : V} {t : String} {n2 : Int} {es2 : List Ent} (h : ThT H v t) (s : BL B.foot H H') (hB : BookN P w H C B n es) (hB' : BookN P w H' C B n2 es2) : ThT H' v t := by
  cases h with
  | non => exact .non
  | bl b => exact .bl b
  | int i => exact .int i
  | str x => exact .str x
  | @lst a xs h =>
    by_cases ha : a ∈ B.foot
    · obtain ⟨a1, a2, ⟨ps, a3, a3'⟩, ⟨ds, a4, a4'⟩, ⟨kvs, ⟨a5, a6⟩, a5'⟩, a7, a8, a9⟩ := hB
      obtain ⟨c1, c2, ⟨qs, c3, c3'⟩, ⟨es, c4, c4'⟩, _, _, _, _⟩ := hB'
      simp only [BP.foot, List.mem_cons, List.not_mem_nil, or_false] at ha
      rcases ha with rfl | rfl | rfl | rfl | rfl
      · rw [a1] at h; cases h
      · exact .lst c2
      · exact .lst c3
      · exact .lst c4
      · rw [a5] at h; cases h
    · exact .lst (s _ _ ha h)
  | @tup a xs h => exact .tup (s _ _ (fun z => hB.notup a z xs h) h)
  | @dct a xs h =>
    by_cases ha : a ∈ B.foot
    · obtain ⟨a1, a2, ⟨ps, a3, a3'⟩, ⟨ds, a4, a4'⟩, ⟨kvs, ⟨a5, a6⟩, a5'⟩, a7, a8, a9⟩ := hB
      simp only [BP.foot, List.mem_cons, List.not_mem_nil, or_false] at ha
      rcases ha with rfl | rfl | rfl | rfl | rfl
      · rw [a1] at h; cases h
      · rw [a2] at h; cases h
      · rw [a3] at h; cases h
      · rw [a4] at h; cases h
      · rw [a5] at h; cases h
    · exact .dct (s _ _ ha h)
end
/-- Due by what its things keep -/
theorem Due.keep {H H' : Hp} {n : Nat} {kv pv : V} {d : DueR} (h : Due H n kv pv d) (ht : ∀ v t, ThT H v t → ThT H' v t) (hp : ∀ b xs, H b = some (.tup xs) → H' b = some (.tup xs)) : Due H' n kv pv d := by
  have pt : ∀ {xs : List V}, PtOk H xs → PtOk H' xs := fun {xs} h => ⟨h.len, fun x hx => let ⟨t, q⟩ := h.ty x hx; ⟨t, ht _ _ q⟩, h.str⟩
  cases h with
  | kind h hk => exact .kind (ht _ _ h) hk
  | parts hz hf =>
    refine .parts hz ?_
    rcases hf with ⟨a, xs, e, ha, h, hc⟩ | ⟨t, h, hne, hc⟩
    · exact .inl ⟨a, xs, e, hp _ _ ha, pt h, hc⟩
    · exact .inr ⟨t, ht _ _ h, hne, hc⟩
  | lets hz ha h hf => exact .lets hz (hp _ _ ha) (pt h) hf
theorem ThT.ext {H H' : Hp} {v : V} {t : String} (h : ThT H v t) (s : ExtN H H') : ThT H' v t := by
  cases h with
  | non => exact .non
  | bl b => exact .bl b
  | int i => exact .int i
  | str x => exact .str x
  | lst h => exact .lst (s _ _ h fun ps z => nomatch z)
  | tup h => exact .tup (s _ _ h fun ps z => nomatch z)
  | dct h => exact .dct (s _ _ h fun ps z => nomatch z)
/-- a tuple's keys -/
theorem fits_keys {n : Nat} {z : Str} {xs : List V} (h : fitsT n z xs = true) : ∃ ks : List Key, xs = ks.map kV := by
  have below : ∀ {ys : List V}, ys.all (belowV (n : Nat)) = true → ∃ ks : List Key, ys = ks.map kV := by
    intro ys
    induction ys with
    | nil => intro _; exact ⟨[], rfl⟩
    | cons y r ih =>
      intro h
      rw [List.all_cons, Bool.and_eq_true] at h
      obtain ⟨ks, rfl⟩ := ih h.2
      cases y with
      | int i => exact ⟨.inl i :: ks, rfl⟩
      | _ => exact nomatch h.1
  unfold fitsT at h
  by_cases e1 : z = "name"
  · rw [if_pos e1] at h
    cases xs with
    | nil => exact nomatch h
    | cons x r => cases r with
      | nil => cases x with
        | str x => exact ⟨[.inr x], rfl⟩
        | _ => exact nomatch h
      | cons y r => exact nomatch h
  rw [if_neg e1] at h
  by_cases e2 : z = "number"
  · rw [if_pos e2] at h
    cases xs with
    | nil => exact nomatch h
    | cons x r => cases r with
      | nil => cases x with
        | int i => exact ⟨[.inl i], rfl⟩
        | _ => exact nomatch h
      | cons y r => exact nomatch h
  rw [if_neg e2, Bool.and_eq_true] at h
  exact below h.2
/-- of each kind and parts something is due -/
theorem due_ex {b g : Addr} {H : Hp} {n : Nat} {kv pv : V} (hk : GS b g H kv) (hp : PvB b g H pv) : ∃ d, Due H n kv pv d := by
  obtain ⟨⟨t, ht⟩, _, hs⟩ := hk
  by_cases hz : ∃ z, kv = .str z ∧ z ∈ putK9
  · obtain ⟨z, rfl, hz⟩ := hz
    rcases hp with ⟨p, xs, rfl, hg, hl⟩ | ⟨t2, h1, h2, _⟩
    · have pt : PtOk H xs := ⟨hl, fun x hx => (hg.2.2.2 x hx).1, fun x hx z e => let h := (hg.2.2.2 x hx).2.2 z e; ⟨h.1, h.2.1⟩⟩
      cases hf : fitsT n z xs with
      | true =>
        obtain ⟨ks, rfl⟩ := fits_keys hf
        exact ⟨_, .lets hz hg.1 pt hf⟩
      | false => exact ⟨_, .parts hz (.inl ⟨p, xs, rfl, hg.1, pt, hf.symm⟩)⟩
    · exact ⟨_, .parts hz (.inr ⟨t2, h1, h2, rfl⟩)⟩
  · exact ⟨_, .kind ht fun z e => ⟨(hs z e).2.2, fun h => hz ⟨z, e, h⟩⟩⟩
end L2.My
end
section
set_option Elab.async false
set_option linter.all false
set_option maxRecDepth 100000
set_option maxHeartbeats 4000000
namespace L2.My
open PySem PySem.Spec PyProof.Rows LamX
abbrev sPutR : Stmt := top 34
section
variable {P : Program} {w : World} {K : PySem.W.Frag} {mg : Str → Option Value} {base : Heap}
/-- as Fun.ok, the code object known -/
theorem okC {x qual : Str} {st : Stmt} {f c : Addr} {fd : FuncData} {N ps : List Str} {k : Nat} {sp : Sp} (F : Fun K x qual st f fd) (hc : fd.code = .ref c) (S : FnScope N ps (defScope st)) (len : ∀ vs H Q E, sp vs H Q E → vs.length = ps.length)
    (hbody : ∀ (A : Around) (outer : List Env) (s : Shared) (H : Hp) (vs : List V) (Q : VK) (E : XK), Room k (A.deeper (envOfC qual (defScope st) s.heap.objs.size f (.ref c))) → sp vs H Q E →
      ∃ t, PSs (cxOf L2.CX0 P w K mg base N qual (defScope st) f (.ref c) A outer s H E).nox (defBody st) t ∧ t { nx := fun _ H' => Q .non H', rt := Q } (start N vs) H) : FnOk P w K mg base L2.CX0 (k + 1) f fd ps sp := by
  obtain ⟨oc, od, kV, doc, pm, an, cdv, ct, osl, rfl, lk, hcd⟩ := F.ex
  have e : cdv = .ref c := hc
  subst e
  refine fn_of lk hcd S len fun A outer s H vs Q E hr hsp => ?_
  obtain ⟨t, h, q⟩ := hbody A outer s H vs Q E hr hsp
  exact ⟨t, h.nox, q⟩
theorem scPutR : FnScope ["bag", "book", "entries", "entry", "told", "due", "kind", "parts"] ["bag", "book", "entries"] (defScope sPutR) := ⟨rfl, rfl, rfl, by decide +kernel, rfl, by decide +kernel, by decide +kernel⟩
theorem asg_split {te : TE} {g : TG} {u : TS} {D : Ends} {σ : St} {H : Hp} (R : St → Hp → Prop) (h2 : ∀ σ' H', R σ' H' → u D σ' H') (h1 : ∀ N : St → Hp → Prop, (∀ σ' H', R σ' H' → N σ' H') → te σ H fun v H1 => g v σ H1 N) : tSeq (tAsg te g) u D σ H := h1 _ h2
theorem asg_splitN {D' : Ends} {te : TE} {g : TG} {u : TS} {D : Ends} {σ : St} {H : Hp} (hD : D'.nx = tSeq (tAsg te g) u D) (R : St → Hp → Prop) (h2 : ∀ σ' H', R σ' H' → u D σ' H') (h1 : ∀ N : St → Hp → Prop, (∀ σ' H', R σ' H' → N σ' H') → te σ H fun v H1 => g v σ H1 N) : tNext D' σ H := by
  show D'.nx σ H
  rw [hD]
  exact asg_split R h2 h1
theorem Tabs.bs {TT : List (Addr × Str)} {b g : Addr} {H H' : Hp} (h : Tabs TT H) (hB : BagAt H b g) (s : BS b g H H') : Tabs TT H' := fun p hp => by
  obtain ⟨ps, h1, h2, h3⟩ := h p hp
  obtain ⟨ne, ns, sd, n, c, e1, e2, _⟩ := hB
  refine ⟨ps, s.1 _ _ (fun z => (by rw [z, e1] at h1; cases h1)) (fun z => (by rw [z, e2] at h1; cases h1)) h1, h2, fun pos cv hc => ?_⟩
  obtain ⟨c, e, hco⟩ := h3 pos cv hc
  refine ⟨c, e, s.1 _ _ (fun z => ?_) (fun z => ?_) hco⟩
  · rw [z, e1] at hco; unfold CodeO at hco; cases hco
  · rw [z, e2] at hco; unfold CodeO at hco; cases hco
theorem code_ne_num {c : Addr} {q : Str} {P : Program} {w : World} {kvs : List (Ent × Addr × V)} : CodeO c q ≠ NumO P w c kvs := fun z => by
  unfold CodeO NumO at z
  injection z with z
  have key := congrFun z { objs := Array.replicate (c + 1) ({ cls := .none, data := .fields #[.none, .str q 0] } : Obj) }
  have hg : ({ objs := Array.replicate (c + 1) ({ cls := .none, data := .fields #[.none, .str q 0] } : Obj) } : Heap).get? c = some { cls := .none, data := .fields #[.none, .str q 0] } := by
    unfold Heap.get?
    simp
  have h1 := key.mp ⟨_, _, 0, hg, rfl, rfl⟩
  obtain ⟨_, xs, o, es, ep, _, h2, _, h3, _⟩ := h1
  rw [hg] at h2
  cases h2
  cases h3
theorem Tabs.keep {TT : List (Addr × Str)} {H H' : Hp} (h : Tabs TT H) (hs : ∀ y ps, H y = some (.tbl ps) → H' y = some (.tbl ps)) (hc : ∀ c q, H c = some (CodeO c q) → H' c = some (CodeO c q)) : Tabs TT H' := fun p hp => by
  obtain ⟨ps, h1, h2, h3⟩ := h p hp
  refine ⟨ps, hs _ _ h1, h2, fun pos cv hv => ?_⟩
  obtain ⟨c, e, hco⟩ := h3 pos cv hv
  exact ⟨c, e, hc _ _ hco⟩
theorem Tabs.bk {TT : List (Addr × Str)} {H H' : Hp} {P : Program} {w : World} {C : Addr} {B : BP} {n : Int} {es : List Ent} (h : Tabs TT H) (hK : BookN P w H C B n es) (s : BL B.foot H H') : Tabs TT H' := by
  refine L2.My.Tabs.keep h (fun y ps e => s _ _ (fun hy => ?_) e) fun c q e => s _ _ (fun hy => ?_) e
  · obtain ⟨o, ho, hn⟩ := hK.nt y hy
    rw [e] at ho
    cases ho
    exact hn ps rfl
  · obtain ⟨a1, a2, ⟨ps, a3, a3'⟩, ⟨ds, a4, a4'⟩, ⟨kvs, ⟨a5, a6⟩, a5'⟩, a7, a8, a9⟩ := hK
    simp only [BP.foot, List.mem_cons, List.not_mem_nil, or_false] at hy
    rcases hy with rfl | rfl | rfl | rfl | rfl
    · rw [a1] at e; unfold CodeO at e; cases e
    · rw [a2] at e; unfold CodeO at e; cases e
    · rw [a3] at e; unfold CodeO at e; cases e
    · rw [a4] at e; unfold CodeO at e; cases e
    · rw [a5] at e
      exact code_ne_num (Option.some.inj e).symm
theorem Tabs.lst {TT : List (Addr × Str)} {H H' : Hp} {l : Addr} {xs : List V} (h : Tabs TT H) (hl : H l = some (.lst xs)) (s : BL [l] H H') : Tabs TT H' := by
  refine L2.My.Tabs.keep h (fun y ps e => s _ _ (fun hy => ?_) e) fun c q e => s _ _ (fun hy => ?_) e
  · rw [List.mem_singleton] at hy; rw [hy, hl] at e; cases e
  · rw [List.mem_singleton] at hy; rw [hy, hl] at e; unfold CodeO at e; cases e
theorem LW.snoc {es : List Ent} {e : Ent} (h : LW es) (ok : Ok1 es.length e) (hn : e ∉ es) (hf : e.1 = "fresh" → e = freshE es) : LW (es ++ [e]) := by
  have last : ∀ {i : Nat} {x : Ent}, (es ++ [e])[i]? = some x → (i < es.length ∧ es[i]? = some x) ∨ (i = es.length ∧ x = e) := fun {i x} hx => by
    by_cases hi : i < es.length
    · rw [List.getElem?_append_left hi] at hx
      exact .inl ⟨hi, hx⟩
    · have hi2 : i = es.length := by
        have := (List.getElem?_eq_some_iff.mp hx).1
        rw [List.length_append] at this
        simp only [List.length_singleton] at this
        omega
      subst hi2
      rw [List.getElem?_append_right (Nat.le_refl _), Nat.sub_self] at hx
      cases hx
      exact .inr ⟨rfl, rfl⟩
  refine ⟨⟨fun i x hx => ?_, ?_, fun i hi => ?_⟩, fun i x hx hxf => ?_⟩
  · rcases last hx with ⟨_, h1⟩ | ⟨rfl, rfl⟩
    · exact h.wf.ok i x h1
    · exact ok
  · rw [List.nodup_append]
    exact ⟨h.wf.nd, by simp, fun x hx y hy => by rw [List.mem_singleton] at hy; rw [hy]; exact fun z => hn (z ▸ hx)⟩
  · rw [cntF_snoc]
    rcases List.mem_append.mp hi with hi | hi
    · have := h.wf.fr i hi
      split <;> omega
    · rw [List.mem_singleton] at hi
      have e1 : e.1 = ("fresh" : Str) := (congrArg Prod.fst hi).symm
      rw [if_pos e1]
      have e2 := hf e1
      rw [e2] at hi
      have e3 := congrArg Prod.snd hi
      cases e3
      omega
  · rcases last hx with ⟨hi, h1⟩ | ⟨rfl, rfl⟩
    · rw [List.take_append_of_le_length (by omega)]
      exact h.fr i x h1 hxf
    · rw [List.take_append_of_le_length (Nat.le_refl _), List.take_length]
      exact hf hxf
theorem fresh_new {es : List Ent} (h : LW es) : freshE es ∉ es := fun hm => by
  have := h.wf.fr _ hm
  omega
theorem any_ents (e : Ent) (es : List Ent) : ((es.map entD).any fun z => PyData.eqv z (entD e)) = (numE es e).isSome := by
  have h : ((es.map entD).any fun z => PyData.eqv z (entD e)) = es.any fun x => decide (x = e) := by
    rw [List.any_map]
    congr 1
    funext x
    exact eqv_e x e
  rw [h]
  unfold numE
  by_cases ha : (es.any fun x => decide (x = e)) = true
  · rw [if_pos ha, ha]; rfl
  · rw [if_neg ha]
    rw [Bool.not_eq_true] at ha
    rw [ha]; rfl
theorem shaped_ents {es : List Ent} (h : Wf0 es) : SeqAt.shaped (.list (es.map entD)) = true := shaped_list (n := 3) (by decide) dep_e fun e he => by
  obtain ⟨i, hi⟩ := List.mem_iff_getElem?.mp he
  exact can_e (h i e hi).good
theorem dp_list {K : PySem.W.Frag} {H : Hp} {l : Addr} {es : List Ent} (h : EntsAt H l es) : Dp K H (.ref l) (.list (es.map entD)) := by
  obtain ⟨qs, h1, h2⟩ := h
  exact .lst (.of h1) (dp_ents h2)
theorem shaped_due (wd : Str) (h : PyData.strOk wd = true) : SeqAt.shaped (.tuple [.str wd, .none]) = true := by
  simp [h, SeqAt.shaped, PyData.canLay0, PyData.canLayAll0, PyData.depth, PyData.depthAll]
theorem shaped_let (i : Int) : SeqAt.shaped (.tuple [.str "let", .int i]) = true := by
  have h : PyData.strOk "let" = true := by decide +kernel
  simp [h, SeqAt.shaped, PyData.canLay0, PyData.canLayAll0, PyData.depth, PyData.depthAll]
/-- what calling _law_word asks of the text -/
structure WordC (P : Program) (w : World) (K : PySem.W.Frag) (mg : Str → Option Value) (base : Heap) (PE C0 C1 C2 C3 : Addr) where
  T : WordTxt K mg PE C0 C1 C2 C3
  f : Addr
  fd : FuncData
  F : Fun K "_law_word" "_law_word" sWord f fd
  g : mg "_law_word" = some (.ref f)
  b : Binds K fd ["asked"] []
def lamQ (x : String) : Str := Str.ofString (x ++ ".<locals>.<lambda>")
def spPutR (P : Program) (w : World) (C : Addr) (T : List (Addr × Str)) : Sp := fun vs H Q _ => ∃ b g B l es, vs = [.ref b, .ref B.b, .ref l] ∧ BagAt H b g ∧ BookAt P w H C B es ∧ EntsAt H l es ∧ LW es ∧ es.length ≤ 500 ∧ Tabs T H ∧ l ≠ b ∧ l ≠ g ∧ l ∉ B.foot ∧ b ∉ B.foot ∧ g ∉ B.foot ∧
  ∀ H' es', FX (b :: g :: l :: B.foot) H H' → BagAt H' b g → BookAt P w H' C B es' → EntsAt H' l es' → LW es' → es'.length ≤ es.length + 1 → Tabs T H' → Q (.bl true) H'
theorem ok_putR {f c Pt fE fBe fD fF fP C C0 C1 C2 C3 PEr : Addr} {fd fdE fdBe fdD fdF fdP : FuncData} {k : Nat} {TT : List (Addr × Str)} (F : Fun K "_law_put_right" "_law_put_right" sPutR f fd) (hc : fd.code = .ref c) (L : LfTxt P w K mg base k) (cB : BkC K C) (W : WordC P w K mg base PEr C0 C1 C2 C3)
    (TB : TabB base mg c Pt) (hmT : (Pt, lamQ "_law_put_right") ∈ TT) (hu : ∀ p ∈ TT, p.1 = Pt → p.2 = lamQ "_law_put_right")
    (GE : FnOk P w K mg base CX0 (k + 3) fE fdE ["bag", "found"] spEnt) (kE : PySem.W.keepIn K (.ref fE) = true) (gE : mg "_law_entry" = some (.ref fE)) (bE : Binds K fdE ["bag", "found"] [])
    (GBe : FnOk P w K mg base CX0 (k + 3) fBe fdBe ["bag", "entries", "entry"] spBent) (kBe : PySem.W.keepIn K (.ref fBe) = true) (gBe : mg "_law_bent" = some (.ref fBe)) (bBe : Binds K fdBe ["bag", "entries", "entry"] [])
    (GD : FnOk P w K mg base CX0 (k + 2) fD fdD ["entries", "kind", "parts"] spDue) (kD : PySem.W.keepIn K (.ref fD) = true) (gD : mg "_law_due" = some (.ref fD)) (bD : Binds K fdD ["entries", "kind", "parts"] [])
    (GF : FnOk P w K mg base CX0 (k + 3) fF fdF ["self"] (spFresh P w C)) (mF : Meth K C "fresh" fF) (bF : Binds K fdF ["self"] [])
    (GP : FnOk P w K mg base (CX P w) (k + 4) fP fdP ["self", "kind", "parts"] (spPut P w C C0 C1)) (mP : Meth K C "put" fP) (bP : Binds K fdP ["self", "kind", "parts"] []) :
    FnOk P w K mg base CX0 (k + 7) f fd ["bag", "book", "entries"] (spPutR P w C TT) := by
  refine okC F hc scPutR (fun vs H Q E h => ?_) (fun A outer s H vs Q E hr h => ?_)
  · obtain ⟨b, g, B, l, es, rfl, _⟩ := h
    rfl
  · obtain ⟨b, g, B, l, es, rfl, hB, hK, hE, lw, hlen, hT, lb, lg, lf, bf, gf, q⟩ := h
    obtain ⟨oc, od, kV, doc, pm, an, cdv, ct, osl, efd, lk, hcd⟩ := W.F.ex
    have bW := W.b
    rw [efd] at bW lk
    have T := L.T
    have hqual : (cxOf CX0 P w K mg base ["bag", "book", "entries", "entry", "told", "due", "kind", "parts"] "_law_put_right" (defScope sPutR) f (.ref c) A outer s H E).nox.env.qual ++ "<lambda>" = lamQ "_law_put_right" := by
      first | rfl | kernel_rfl
    refine ⟨_, pss_cons (ps_set (i := 3) scPutR.nd rfl (Or.inl rfl) (pe_call GE (hr.mono (by omega)) (by rfl) gE kE bE .nil pass0 (pa_cons (pv 0) (pa_cons (pv 2) pa_nil))))
      (pss_cons (ps_if (pt_cmpR op_eq (pe_ix ix_tup (pv 3) pe_int (fun _ _ => rfl)) pe_str (nomark _))
        (pss_cons (ps_expr (pe_bm PySem.F.plainAttrs_list PySem.F.slot_list_append PySem.F.type_list_append mt_append (pv 2) (pa_cons (pv 3) pa_nil)))
        (pss_one (ps_ret (pe_cmpR op_eq (pe_meth0 (pv 1) cB.cls mF GF (hr.mono (by omega)) bF .nil pass0) (pe_op op_sub (pe_callB call_len_seq (by rfl) T.len_ PySem.boot_len (pa_cons (pv 2) pa_nil)) pe_int) (nomark _))))) pss_nil)
      (pss_cons (ps_asg (pe_ifExp (pt_cmpR op_eq (pe_call L.GP (hr.mono (by omega)) (by rfl) L.gP L.kP L.bP .nil pass0 (pa_cons (pv 0) (pa_cons pe_int pa_nil))) pe_int (nomark _)) (pe_call GBe (hr.mono (by omega)) (by rfl) gBe kBe bBe .nil pass0 (pa_cons (pv 0) (pa_cons (pv 2) (pa_cons (pv 3) pa_nil)))) (pv 3))
          (pg_tup rfl (pgs_cons (pg_name (i := 6) scPutR.nd rfl (Or.inr rfl)) (pgs_cons (pg_name (i := 7) scPutR.nd rfl (Or.inr rfl)) pgs_nil))))
      (pss_cons (ps_par (i := 4) (j := 5) rfl scPutR.nd rfl rfl (by decide) rfl rfl (pa_cons
          (pe_lamcall (T := TT) (t := fun E => tMeth C "put" (spPut P w C C0 C1) [] E (tVar 1) (tCons (tVar 6) (tCons (tVar 7) tNil))) (by rfl) W.g W.F.kp lk hcd bW scWord rfl (Or.inl rfl) (word_gives W.T) TB rfl (by rw [hqual]; exact hmT) (by rw [hqual]; exact hu) (hr.mono (by omega)) (lamS_by (sc := defScope sPutR) (by decide +kernel)) rfl (fun _ _ _ _ _ => rfl)
            (fun A2 outer2 s2 H2 E2 f2 c2 hr2 => pe_meth (pv 1) cB.cls mP GP hr2 bP .nil (passes_call (takes_of (E := E2) rfl rfl rfl rfl) fun _ _ _ _ h => h) (pa_cons (pv 6) (pa_cons (pv 7) pa_nil))))
          (pa_cons (pe_call GD (hr.mono (by omega)) (by rfl) gD kD bD .nil pass0 (pa_cons (pv 2) (pa_cons (pv 6) (pa_cons (pv 7) pa_nil)))) pa_nil)) rfl)
      (pss_cons (ps_if (pt_cmpR op_ne (pv 5) pe_str (nomark _)) (pss_one (ps_ret (pe_cmpR (op_eqD hr.units) (pv 4) (pe_tup (pa_cons (pv 5) (pa_cons pe_non pa_nil))) (nomark _)))) pss_nil)
      (pss_cons (ps_if (pt_cmpR (op_notInD (u65 hr)) (pe_tup (pa_cons (pv 6) (pa_cons (pv 7) pa_nil))) (pv 2) (by rfl))
        (pss_one (ps_expr (pe_bm PySem.F.plainAttrs_list PySem.F.slot_list_append PySem.F.type_list_append mt_append (pv 2) (pa_cons (pe_tup (pa_cons (pv 6) (pa_cons (pv 7) pa_nil))) pa_nil)))) pss_nil)
      (pss_one (ps_ret (pe_and (pe_cmpR (op_eqD hr.units) (pv 4) (pe_tup (pa_cons pe_str (pa_cons (pe_bm PySem.F.plainAttrs_list PySem.F.slot_list_index PySem.F.type_list_index (mt_indexD (u65 hr)) (pv 2) (pa_cons (pe_tup (pa_cons (pv 6) (pa_cons (pv 7) pa_nil))) pa_nil)) pa_nil))) (nomark _))
        (pe_one (pe_not (pe_callB call_isTh (by rfl) T.isi (by decide +kernel) (pa_cons (pe_ix ix_tup (pv 4) pe_int (fun _ _ => rfl)) (pa_cons (pe_bltn (v := .ty "bool") (u := .type "bool") (by rfl) T.bool_ (by decide +kernel) rfl) pa_nil))))))))))))), ?_⟩
    have hLt : ∀ p ∈ b :: g :: l :: B.foot, ∀ xs, H p ≠ some (.tup xs) := by
      intro p hp xs e
      obtain ⟨qs, hl, _⟩ := id hE
      rcases List.mem_cons.mp hp with rfl | hp
      · exact (hB.notup e).1 rfl
      rcases List.mem_cons.mp hp with rfl | hp
      · exact (hB.notup e).2 rfl
      rcases List.mem_cons.mp hp with rfl | hp
      · rw [hl] at e; cases e
      · exact hK.notup p hp xs e
    have bgf : ∀ p ∈ B.foot, p ∉ [b, g] := fun p hp z => by
      rcases List.mem_cons.mp z with rfl | z
      · exact bf hp
      · rw [List.mem_singleton] at z; rw [z] at hp; exact gf hp
    have bgt : ∀ {G : Hp}, BagAt G b g → ∀ p ∈ [b, g], ∀ xs, G p ≠ some (.tup xs) := fun hG p hp xs e => by
      rcases List.mem_cons.mp hp with rfl | hp
      · exact (hG.notup e).1 rfl
      · rw [List.mem_singleton] at hp; rw [hp] at e; exact (hG.notup e).2 rfl
    refine ⟨_, rfl, _, rfl, b, g, l, es, rfl, hB, hE, by omega, lb, lg, fun H1 qa e sB1 hB1 hq hdr => ?_⟩
    have hE1 := hE.bs hB sB1 lb lg
    have hK1 : BookAt P w H1 C B es := hK.fx (L := [b, g]) (.bs sB1 (by simp) (by simp)) bgf (bgt hB)
    have hT1 := Tabs.bs hT hB sB1
    have F1 : FX (b :: g :: l :: B.foot) H H1 := .bs sB1 (by simp) (by simp)
    obtain ⟨p, hq1, hq2⟩ := id hq
    obtain ⟨qs, hl1, hqs⟩ := id hE1
    have hql := Paired.length hqs
    have big : (2000 : Nat) ≤ sizeLine := by decide
    refine ⟨_, rfl, qa, _, _, _, rfl, rfl, .of hq1, rfl, rfl, _, rfl, ?_⟩
    rw [strV]
    by_cases hf : e.1 = ("fresh" : Str)
    · rw [decide_eq_true hf]
      have he : e = freshE es := by
        rcases hdr with h | ⟨_, h⟩
        · exact h
        · exact absurd hf (put_not_fresh _ h)
      subst he
      refine iteT ⟨_, rfl, .inl ⟨rfl, _, .of hl1⟩, _, rfl, l, _, _, rfl, rfl, hl1, by rw [List.length_map]; omega, ?_⟩
      have e1 : qs.map V.ref ++ [.ref qa] = (qs ++ [qa]).map V.ref := by rw [List.map_append]; rfl
      rw [e1]
      generalize hH2 : upd H1 l (.lst ((qs ++ [qa]).map V.ref)) = H2
      have b2 : BL [l] H1 H2 := by rw [← hH2]; exact .upd (by simp)
      have l2 : H2 l = some (.lst ((qs ++ [qa]).map V.ref)) := by rw [← hH2, upd_same]
      have ltup : ∀ p ∈ [l], ∀ xs, H1 p ≠ some (.tup xs) := fun p hp xs e => by rw [List.mem_singleton] at hp; rw [hp, hl1] at e; cases e
      have hK2 := hK1.bl b2 (fun p hp z => by rw [List.mem_singleton] at z; rw [z] at hp; exact lf hp) ltup
      refine ⟨_, rfl, B.b, B.dx, _, rfl, hK2.ins, rfl, B, es, rfl, hK2, by omega, fun H3 bl3 hK3 => ?_⟩
      have l3 : H3 l = some (.lst ((qs ++ [qa]).map V.ref)) := bl3 _ _ lf l2
      have t13 : ∀ y xs, H1 y = some (.tup xs) → H3 y = some (.tup xs) := fun y xs e => bl3 _ _ (fun z => hK1.notup y z xs e) (b2 _ _ (fun z => ltup y z xs e) e)
      refine ⟨_, rfl, l, _, rfl, .inl (.of l3), _, _, rfl, rfl, rfl, ?_⟩
      have n1 : (((qs ++ [qa]).map V.ref).length : Int) - 1 = (es.length : Nat) := by
        rw [List.length_map, List.length_append, List.length_singleton, hql]; omega
      show Q (.bl (decide (V.int (es.length : Nat) = V.int ((((qs ++ [qa]).map V.ref).length : Int) - 1)))) H3
      rw [n1, decide_eq_true rfl]
      have F3 : FX (b :: g :: l :: B.foot) H H3 := F1.trans ((FX.bl b2 (by simp)).trans (.bl bl3 fun p hp => by simp [hp]))
      have ok : Ok1 es.length (freshE es) := .fresh _ (by omega)
      refine q H3 _ F3 (hB1.fx (L := l :: B.foot) ((FX.bl b2 (by simp)).trans (.bl bl3 fun p hp => by simp [hp])) (by simp [lb.symm, bf]) (by simp [lg.symm, gf])) hK3 ⟨qs ++ [qa], l3, paired_snoc (Paired.mapP hqs fun _ _ z => EntAt.keep z t13) (hq.keep t13)⟩ (lw.snoc ok (fresh_new lw) fun _ => rfl) (by rw [List.length_append]; simp) (L2.My.Tabs.bk (L2.My.Tabs.lst hT1 hl1 b2) hK2 bl3)
    rw [decide_eq_false hf]
    refine iteF ?_
    obtain ⟨ok, hk9⟩ : Ok1 es.length e ∧ e.1 ∈ putK9 := by
      rcases hdr with h | h
      · rw [h] at hf; exact absurd rfl hf
      · exact h
    dsimp only [tNext]
    refine asg_split (fun σ' G => ∃ kv pv d, σ' = [some (.ref b), some (.ref B.b), some (.ref l), some (.ref qa), none, none, some kv, some pv] ∧ FX (b :: g :: l :: B.foot) H G ∧ BagAt G b g ∧ BookAt P w G C B es ∧ EntsAt G l es ∧ Tabs TT G ∧ Due G es.length kv pv d) ?_ ?_
    rotate_left 1
    · intro N hN
      refine ⟨_, rfl, b, g, 3, rfl, hB1, by decide, by decide, fun H2 r b2 hB2 _ _ => ⟨rfl, _, rfl, ?_⟩⟩
      have s2 : BS b g H1 H2 := .but b2
      have hq' : ∀ y xs, H1 y = some (.tup xs) → H2 y = some (.tup xs) := fun y xs e => let ⟨x, z⟩ := hB1.notup e; s2.1 _ _ x z e
      have hK2 : BookAt P w H2 C B es := hK1.fx (L := [b, g]) (.bs s2 (by simp) (by simp)) bgf (bgt hB1)
      refine ite2 (fun _ => ?_) (fun _ => ?_)
      · refine ⟨_, rfl, _, rfl, _, rfl, b, g, l, es, qa, e, rfl, hB2, hE1.bs hB1 s2 lb lg, by omega, lb, lg, hq.keep hq', ⟨_, ok⟩, fun H3 rr kv pv s3 hB3 hr3 hkv hpv => ?_⟩
        obtain ⟨d, hd⟩ := due_ex (n := es.length) hkv hpv
        refine ⟨rr, _, rfl, .of hr3, rfl, _, _, rfl, _, _, rfl, rfl, hN _ _ ⟨kv, pv, d, rfl, F1.trans (.bs (s2.trans s3) (by simp) (by simp)), hB3, hK2.fx (L := [b, g]) (.bs s3 (by simp) (by simp)) bgf (bgt hB2), (hE1.bs hB1 s2 lb lg).bs hB2 s3 lb lg, Tabs.bs (Tabs.bs hT1 hB1 s2) hB2 s3, hd⟩⟩
      · refine ⟨_, rfl, qa, _, rfl, .of (hq' _ _ hq1), rfl, _, _, rfl, _, _, rfl, rfl, hN _ _ ⟨_, _, _, rfl, F1.trans (.bs s2 (by simp) (by simp)), hB2, hK2, hE1.bs hB1 s2 lb lg, Tabs.bs hT1 hB1 s2, ok1_due ok hf (hq' _ _ hq2)⟩⟩
    rintro σ' G ⟨kv, pv, d, rfl, FG, hBG, hKG, hEG, hTG, hd⟩
    refine ⟨hTG, fun H4 x4 hT4 => ?_⟩
    have F4 : FX [] G H4 := .ext x4
    have hK4 : BookAt P w H4 C B es := hKG.fx F4 (fun _ _ z => nomatch z) fun _ z => nomatch z
    have hE4 : EntsAt H4 l es := hEG.fx F4 (fun z => nomatch z) fun _ z => nomatch z
    have hB4 : BagAt H4 b g := hBG.fx F4 (fun z => nomatch z) fun z => nomatch z
    have hd4 : Due H4 es.length kv pv d := hd.keep (fun v t h => h.ext x4) fun y xs e => x4 _ _ e fun ps z => nomatch z
    have FH4 : FX (b :: g :: l :: B.foot) H H4 := FG.trans (.ext x4)
    refine ⟨_, rfl, B.b, B.dx, _, rfl, hK4.ins, rfl, _, rfl, _, rfl, B, es, kv, pv, d, rfl, hK4, hd4, ?_⟩
    cases d with
    | kind =>
      intro H5 s5
      refine ⟨C0, "kind", by simp [wordsOf], rfl, rfl, fun p H6 s6 np hp6 => ?_⟩
      have s56 := s5.trans s6
      have hE6 := hE4.same s56
      have hd6 : Due H6 es.length kv pv .kind := hd4.keep (fun v t h => h.keep s56) fun y xs e => s56 _ _ e
      refine ⟨_, rfl, _, rfl, _, rfl, l, es, kv, pv, .kind, rfl, hE6, by omega, hd6, fun H7 s7 => ⟨_, _, rfl, ?_⟩⟩
      refine ⟨_, rfl, rfl, _, rfl, ?_⟩
      rw [show decide (V.str (wordD .kind) = V.str "let") = false from by decide +kernel]
      refine iteT ⟨_, rfl, _, rfl, by show 2 ≤ sizeLine; decide, fun t nt => ?_⟩
      have s8 := same_upd (o := .tup [.str (wordD .kind), .non]) nt
      have so : PyData.strOk "kind" = true := by decide +kernel
      refine ⟨.tuple [.str "kind", .none], .tuple [.str "kind", .none], .tup (.of (s8 _ _ (s7 _ _ hp6))) (.cons (.str _) (.cons .non .nil)), .tup (.of (show _ = some (.tup [.str "kind", .non]) from upd_same)) (.cons (.str _) (.cons .non .nil)), shaped_due _ so, shaped_due _ so, ?_⟩
      rw [SeqAt.eqv_refl _ (SeqAt.canLay_of_shaped (shaped_due _ so))]
      have s48 := s56.trans (s7.trans s8)
      exact q _ es (FH4.trans (.same s48)) (hB4.same s48) (hK4.same s48) (hE4.same s48) lw (by omega) (Tabs.ext hT4 s48)
    | parts =>
      intro H5 s5
      refine ⟨C1, "parts", by simp [wordsOf], rfl, rfl, fun p H6 s6 np hp6 => ?_⟩
      have s56 := s5.trans s6
      have hE6 := hE4.same s56
      have hd6 : Due H6 es.length kv pv .parts := hd4.keep (fun v t h => h.keep s56) fun y xs e => s56 _ _ e
      refine ⟨_, rfl, _, rfl, _, rfl, l, es, kv, pv, .parts, rfl, hE6, by omega, hd6, fun H7 s7 => ⟨_, _, rfl, ?_⟩⟩
      refine ⟨_, rfl, rfl, _, rfl, ?_⟩
      rw [show decide (V.str (wordD .parts) = V.str "let") = false from by decide +kernel]
      refine iteT ⟨_, rfl, _, rfl, by show 2 ≤ sizeLine; decide, fun t nt => ?_⟩
      have s8 := same_upd (o := .tup [.str (wordD .parts), .non]) nt
      have so : PyData.strOk "parts" = true := by decide +kernel
      refine ⟨.tuple [.str "parts", .none], .tuple [.str "parts", .none], .tup (.of (s8 _ _ (s7 _ _ hp6))) (.cons (.str _) (.cons .non .nil)), .tup (.of (show _ = some (.tup [.str "parts", .non]) from upd_same)) (.cons (.str _) (.cons .non .nil)), shaped_due _ so, shaped_due _ so, ?_⟩
      rw [SeqAt.eqv_refl _ (SeqAt.canLay_of_shaped (shaped_due _ so))]
      have s48 := s56.trans (s7.trans s8)
      exact q _ es (FH4.trans (.same s48)) (hB4.same s48) (hK4.same s48) (hE4.same s48) lw (by omega) (Tabs.ext hT4 s48)
    | lets e2 =>
      have hd5 := hd4
      cases hd4 with
      | @lets z a ks hz ha hp hfit =>
      have okz : Ok1 es.length (z, ks) := fits_ok hz hfit
      have hne : PyData.strOk "let" = true := by decide +kernel
      refine ⟨by omega, fun i hnum H5 s5 => ⟨by decide, fun p np => ⟨_, rfl, ?_⟩⟩, fun hnum H5 b5 hK5 => ⟨by decide, fun p np => ⟨_, rfl, ?_⟩⟩⟩
      · have s6 := same_upd (o := .tup [.str "let", .int (i : Nat)]) np
        have s56 := s5.trans s6
        refine ⟨_, rfl, _, rfl, _, rfl, l, es, _, _, .lets (z, ks), rfl, hE4.same s56, by omega, hd5.keep (fun v t h => h.keep s56) (fun y xs e => s56 _ _ e), fun H7 s7 => ⟨_, _, rfl, ?_⟩⟩
        refine ⟨_, rfl, rfl, _, rfl, ?_⟩
        rw [show decide (V.str (wordD (.lets (z, ks))) = V.str "let") = true from by simp [wordD]]
        refine iteF ⟨_, rfl, _, rfl, by show 2 ≤ sizeLine; decide, fun t nt => ?_⟩
        have s8 := same_upd (o := .tup [.str z, .ref a]) nt
        have s48 := s56.trans (s7.trans s8)
        have hE8 := hE4.same s48
        refine ⟨_, rfl, entD (z, ks), es.map entD, dp_e ⟨a, upd_same, s48 _ _ ha⟩, dp_list hE8, shaped_e okz.good, shaped_ents lw.wf.ok, _, rfl, ?_⟩
        rw [any_ents, hnum]
        refine iteF ?_
        have hget := numE_get hnum
        obtain ⟨qs8, hl8, _⟩ := id hE8
        have htold : (upd H7 t (.tup [.str z, .ref a])) p = some (.tup [.str "let", .int (i : Nat)]) := s8 _ _ (s7 _ _ upd_same)
        have htup := s48 _ _ ha
        refine ⟨_, rfl, _, rfl, .inl ⟨rfl, _, .of hl8⟩, _, rfl, _, rfl, by show 2 ≤ sizeLine; decide, fun t2 nt2 => ?_⟩
        have u1 := same_upd (o := .tup [.str z, .ref a]) nt2
        have hEi := EntsAt.same hE8 u1
        obtain ⟨_, hli, _⟩ := id hE8
        refine ⟨l, .ref t2, entD (z, ks), es.map entD, i, entD (z, ks), rfl, rfl, dp_list hEi, dp_e ⟨a, upd_same, u1 _ _ htup⟩, shaped_ents lw.wf.ok, shaped_e okz.good, by rw [List.getElem?_map, hget]; rfl, by rw [eqv_e]; exact decide_eq_true rfl, fun m z' hm hz' => ?_, ?_⟩
        · rw [List.getElem?_map] at hz'
          cases hx : es[m]? with
          | none => rw [hx] at hz'; cases hz'
          | some x =>
            rw [hx] at hz'
            cases hz'
            rw [eqv_e]
            refine decide_eq_false fun e => ?_
            rw [e] at hx
            have := (List.getElem?_inj (List.getElem?_eq_some_iff.mp hx).1 lw.wf.nd).mp (hx.trans hget.symm)
            omega
        refine ⟨by show 2 ≤ sizeLine; decide, fun t3 nt3 => ?_⟩
        have u2 := same_upd (o := .tup [.str "let", .int (i : Nat)]) nt3
        have u := u1.trans u2
        refine ⟨.tuple [.str "let", .int (i : Nat)], .tuple [.str "let", .int (i : Nat)], .tup (.of (u _ _ htold)) (.cons (.str _) (.cons (.int _) .nil)), .tup (.of (show _ = some (.tup [.str "let", .int (i : Nat)]) from upd_same)) (.cons (.str _) (.cons (.int _) .nil)), shaped_let _, shaped_let _, ?_⟩
        rw [SeqAt.eqv_refl _ (SeqAt.canLay_of_shaped (shaped_let _))]
        refine ⟨_, rfl, iteT ⟨_, rfl, p, _, _, .int (i : Nat), rfl, rfl, .of (u _ _ htold), rfl, .int (i : Nat), "bool", "int", rfl, .int _, by decide, _, rfl, ?_⟩⟩
        have sF := s48.trans u
        exact q _ es (FH4.trans (.same sF)) (hB4.same sF) (hK4.same sF) (hE4.same sF) lw (by omega) (Tabs.ext hT4 sF)
      · have s6 := same_upd (o := .tup [.str "let", .int (es.length : Nat)]) np
        have F5 : FX B.foot H4 H5 := .bl b5 fun p hp => hp
        have hE5 : EntsAt H5 l es := hE4.fx F5 lf hK4.notup
        have t45 : ∀ y xs, H4 y = some (.tup xs) → H5 y = some (.tup xs) := fun y xs e => b5 _ _ (fun z => hK4.notup y z xs e) e
        have hd6 : Due (upd H5 p (.tup [.str "let", .int (es.length : Nat)])) es.length (.str z) (.ref a) (.lets (z, ks)) := hd5.keep (fun v t h => (h.put b5 hK4 hK5).keep s6) fun y xs e => s6 _ _ (t45 _ _ e)
        refine ⟨_, rfl, _, rfl, _, rfl, l, es, _, _, .lets (z, ks), rfl, hE5.same s6, by omega, hd6, fun H7 s7 => ⟨_, _, rfl, ?_⟩⟩
        refine ⟨_, rfl, rfl, _, rfl, ?_⟩
        rw [show decide (V.str (wordD (.lets (z, ks))) = V.str "let") = true from by simp [wordD]]
        refine iteF ⟨_, rfl, _, rfl, by show 2 ≤ sizeLine; decide, fun t nt => ?_⟩
        have s8 := same_upd (o := .tup [.str z, .ref a]) nt
        have s58 := s6.trans (s7.trans s8)
        have hE8 := hE5.same s58
        have ha5 := t45 _ _ ha
        refine ⟨_, rfl, entD (z, ks), es.map entD, dp_e ⟨a, upd_same, s58 _ _ ha5⟩, dp_list hE8, shaped_e okz.good, shaped_ents lw.wf.ok, _, rfl, ?_⟩
        rw [any_ents, hnum]
        refine iteT ?_
        obtain ⟨qs8, hl8, hq8⟩ := id hE8
        have hq8l := Paired.length hq8
        refine ⟨_, rfl, .inl ⟨rfl, _, .of hl8⟩, _, rfl, _, rfl, by show 2 ≤ sizeLine; decide, fun t9 nt9 => ?_⟩
        have s9 := same_upd (o := .tup [.str z, .ref a]) nt9
        have s59 := s58.trans s9
        refine ⟨l, _, _, rfl, rfl, s9 _ _ hl8, by rw [List.length_map]; omega, ?_⟩
        have e1 : qs8.map V.ref ++ [.ref t9] = (qs8 ++ [t9]).map V.ref := by rw [List.map_append]; rfl
        rw [e1]
        generalize hHa : upd (upd (upd H7 t (.tup [.str z, .ref a])) t9 (.tup [.str z, .ref a])) l (.lst ((qs8 ++ [t9]).map V.ref)) = Ha
        have bA : BL [l] (upd (upd H7 t (.tup [.str z, .ref a])) t9 (.tup [.str z, .ref a])) Ha := by rw [← hHa]; exact .upd (by simp)
        have la : Ha l = some (.lst ((qs8 ++ [t9]).map V.ref)) := by rw [← hHa, upd_same]
        have l9 := s9 _ _ hl8
        have ltup : ∀ p ∈ [l], ∀ xs, (upd (upd H7 t (.tup [.str z, .ref a])) t9 (.tup [.str z, .ref a])) p ≠ some (.tup xs) := fun p hp xs e => by rw [List.mem_singleton] at hp; rw [hp, l9] at e; cases e
        have tA : ∀ y xs, (upd (upd H7 t (.tup [.str z, .ref a])) t9 (.tup [.str z, .ref a])) y = some (.tup xs) → Ha y = some (.tup xs) := fun y xs e => bA _ _ (fun hy => ltup y hy xs e) e
        have hEa : EntsAt Ha l (es ++ [(z, ks)]) := ⟨qs8 ++ [t9], la, paired_snoc (Paired.mapP hq8 fun _ _ x => (EntAt.keep x fun b xs e => s9 _ _ e).keep tA) ⟨a, tA _ _ upd_same, tA _ _ (s59 _ _ ha5)⟩⟩
        have hnew : (z, ks) ∉ es := numE_not hnum
        have lw2 : LW (es ++ [(z, ks)]) := lw.snoc okz hnew fun h => absurd h (put_not_fresh z hz)
        have hget : (es ++ [((z, ks) : Ent)])[es.length]? = some (z, ks) := by rw [List.getElem?_append_right (Nat.le_refl _), Nat.sub_self]; rfl
        have htold : Ha p = some (.tup [.str "let", .int (es.length : Nat)]) := tA _ _ (s9 _ _ (s8 _ _ (s7 _ _ upd_same)))
        have htup := tA _ _ (s59 _ _ ha5)
        refine ⟨_, rfl, _, rfl, .inl ⟨rfl, _, .of la⟩, _, rfl, _, rfl, by show 2 ≤ sizeLine; decide, fun t2 nt2 => ?_⟩
        have u1 := same_upd (o := .tup [.str z, .ref a]) nt2
        have hEi := EntsAt.same hEa u1
        refine ⟨l, .ref t2, entD (z, ks), (es ++ [(z, ks)]).map entD, es.length, entD (z, ks), rfl, rfl, dp_list hEi, dp_e ⟨a, upd_same, u1 _ _ htup⟩, shaped_ents (lw2).wf.ok, shaped_e okz.good, by rw [List.getElem?_map, hget]; rfl, by rw [eqv_e]; exact decide_eq_true rfl, fun m z' hm hz' => ?_, ?_⟩
        · rw [List.getElem?_map] at hz'
          cases hx : (es ++ [(z, ks)])[m]? with
          | none => rw [hx] at hz'; cases hz'
          | some x =>
            rw [hx] at hz'
            cases hz'
            rw [eqv_e]
            refine decide_eq_false fun e => ?_
            rw [e] at hx
            have := (List.getElem?_inj (List.getElem?_eq_some_iff.mp hx).1 (lw2).wf.nd).mp (hx.trans hget.symm)
            omega
        refine ⟨by show 2 ≤ sizeLine; decide, fun t3 nt3 => ?_⟩
        have u2 := same_upd (o := .tup [.str "let", .int (es.length : Nat)]) nt3
        have u := u1.trans u2
        refine ⟨.tuple [.str "let", .int (es.length : Nat)], .tuple [.str "let", .int (es.length : Nat)], .tup (.of (u _ _ htold)) (.cons (.str _) (.cons (.int _) .nil)), .tup (.of (show _ = some (.tup [.str "let", .int (es.length : Nat)]) from upd_same)) (.cons (.str _) (.cons (.int _) .nil)), shaped_let _, shaped_let _, ?_⟩
        rw [SeqAt.eqv_refl _ (SeqAt.canLay_of_shaped (shaped_let _))]
        refine ⟨_, rfl, iteT ⟨_, rfl, p, _, _, .int (es.length : Nat), rfl, rfl, .of (u _ _ htold), rfl, .int (es.length : Nat), "bool", "int", rfl, .int _, by decide, _, rfl, ?_⟩⟩
        have hK9 := (hK5.same s59).bl bA (fun p hp x => by rw [List.mem_singleton] at x; rw [x] at hp; exact lf hp) ltup
        have FZ : FX (l :: B.foot) H4 Ha := (FX.bl b5 fun p hp => by simp [hp]).trans ((FX.same s59).trans (.bl bA (by simp)))
        have FW : FX (b :: g :: l :: B.foot) H4 Ha := (FX.bl b5 fun p hp => by simp [hp]).trans ((FX.same s59).trans (.bl bA (by simp)))
        exact q _ _ (FH4.trans (FW.trans (.same u))) ((hB4.fx FZ (by simp [lb.symm, bf]) (by simp [lg.symm, gf])).same u) (hK9.same u) (hEa.same u) lw2 (by rw [List.length_append]; simp) (Tabs.ext (L2.My.Tabs.lst (Tabs.ext (L2.My.Tabs.bk hT4 hK4 b5) s59) l9 bA) u)
end
end L2.My
end
section
set_option Elab.async false
set_option linter.all false
set_option maxRecDepth 100000
set_option maxHeartbeats 4000000
namespace L2.My
open PySem PySem.Spec PyProof.Rows LamX
abbrev sTold : Stmt := top 36
def spTold (P : Program) (w : World) (C : Addr) (T : List (Addr × Str)) : Sp := fun vs H Q _ => ∃ b g B l es, vs = [.ref b, .ref B.b, .ref l] ∧ BagAt H b g ∧ BookAt P w H C B es ∧ EntsAt H l es ∧ LW es ∧ es.length ≤ 500 ∧ Tabs T H ∧ l ≠ b ∧ l ≠ g ∧ l ∉ B.foot ∧ b ∉ B.foot ∧ g ∉ B.foot ∧
  ∀ H', FX [b, g] H H' → BagAt H' b g → Tabs T H' → Q (.bl true) H'
abbrev nTold : List Str := ["bag", "book", "entries", "depths", "term", "told", "words", "none", "odd", "terms", "turn"]
theorem DepOk.unique {es : List Ent} {ds ds' : List Int} (wf : Wf0 es) (h : DepOk es ds) (h' : DepOk es ds') : ds = ds' := by
  have key : ∀ n i : Nat, i < n → i < es.length → ds[i]? = ds'[i]? := by
    intro n
    induction n with
    | zero => intro i hi; omega
    | succ n ih =>
      intro i hi hl
      obtain ⟨m, hm, hd⟩ := h.2 i _ (List.getElem?_eq_getElem hl)
      obtain ⟨m', hm', hd'⟩ := h'.2 i _ (List.getElem?_eq_getElem hl)
      have e : ((inner es[i]).map fun p : Int => ds.getD p.toNat 0) = (inner es[i]).map fun p : Int => ds'.getD p.toNat 0 := List.map_congr_left fun p hp => by
        have := (wf i _ (List.getElem?_eq_getElem hl)).inner_lt p hp
        rw [List.getD_eq_getElem?_getD, List.getD_eq_getElem?_getD, ih p.toNat (by omega) (by omega)]
      rw [e] at hm
      rw [hd, hd', hm.unique hm']
  apply List.ext_getElem?
  intro i
  by_cases hi : i < es.length
  · exact key (i + 1) i (by omega) hi
  · rw [List.getElem?_eq_none (by rw [h.1]; omega), List.getElem?_eq_none (by rw [h'.1]; omega)]
theorem sorted_eq : ∀ {xs ys : List Int}, xs.Pairwise (· ≤ ·) → ys.Pairwise (· ≤ ·) → xs.Nodup → ys.Nodup → (∀ i, i ∈ xs ↔ i ∈ ys) → xs = ys
  | [], [], _, _, _, _, _ => rfl
  | [], y :: r, _, _, _, _, h => absurd ((h y).mpr List.mem_cons_self) (by simp)
  | x :: r, [], _, _, _, _, h => absurd ((h x).mp List.mem_cons_self) (by simp)
  | x :: xs, y :: ys, hx, hy, nx, ny, h => by
    rw [List.pairwise_cons] at hx hy
    rw [List.nodup_cons] at nx ny
    have e : x = y := by
      have h1 := (h x).mp List.mem_cons_self
      have h2 := (h y).mpr List.mem_cons_self
      rcases List.mem_cons.mp h1 with h1 | h1
      · exact h1
      · rcases List.mem_cons.mp h2 with h2 | h2
        · exact h2.symm
        · have := hy.1 x h1; have := hx.1 y h2; omega
    subst e
    refine congrArg (x :: ·) (sorted_eq hx.2 hy.2 nx.2 ny.2 fun i => ⟨fun hi => ?_, fun hi => ?_⟩)
    · rcases List.mem_cons.mp ((h i).mp (List.mem_cons_of_mem _ hi)) with rfl | z
      · exact absurd hi nx.1
      · exact z
    · rcases List.mem_cons.mp ((h i).mpr (List.mem_cons_of_mem _ hi)) with rfl | z
      · exact absurd hi ny.1
      · exact z
theorem shaped_ints (xs : List Int) : SeqAt.shaped (.list (xs.map .int)) = true := shaped_list (n := 1) (by decide) (fun x => by simp [PyData.depth]) fun e he => by simp [PyData.canLay0]
theorem dp_ints {K : PySem.W.Frag} {H : Hp} : ∀ xs : List Int, DpAll K H (xs.map .int) (xs.map .int)
  | [] => .nil
  | x :: r => .cons (.int x) (dp_ints r)
section
variable {P : Program} {w : World} {K : PySem.W.Frag} {mg : Str → Option Value} {base : Heap}
theorem scTold : FnScope nTold ["bag", "book", "entries"] (defScope sTold) := ⟨rfl, rfl, rfl, by decide +kernel, rfl, by decide +kernel, by decide +kernel⟩
theorem ok_told {f c Pt fDe fWi fDp fS fK fPa fD fW C C2 C3 C0 C1 PEr : Addr} {fd fdDe fdWi fdDp fdS fdK fdPa fdD fdW : FuncData} {k : Nat} {TT : List (Addr × Str)} (F : Fun K "_law_told_right" "_law_told_right" sTold f fd) (hc : fd.code = .ref c) (L : LfTxt P w K mg base k) (cB : BkC K C) (W : WordC P w K mg base PEr C0 C1 C2 C3)
    (TB : TabB base mg c Pt) (hmT : (Pt, lamQ "_law_told_right") ∈ TT) (hu : ∀ p ∈ TT, p.1 = Pt → p.2 = lamQ "_law_told_right")
    (GDe : FnOk P w K mg base CX0 (k + 1) fDe fdDe [] spDeep) (kDe : PySem.W.keepIn K (.ref fDe) = true) (gDe : mg "_law_deep" = some (.ref fDe)) (bDe : Binds K fdDe [] [])
    (GWi : FnOk P w K mg base CX0 (k + 2) fWi fdWi ["entries", "terms"] (spWit K)) (kWi : PySem.W.keepIn K (.ref fWi) = true) (gWi : mg "_law_within" = some (.ref fWi)) (bWi : Binds K fdWi ["entries", "terms"] [])
    (GDp : FnOk P w K mg base CX0 (k + 2) fDp fdDp ["entries"] spDeps) (kDp : PySem.W.keepIn K (.ref fDp) = true) (gDp : mg "_law_depths" = some (.ref fDp)) (bDp : Binds K fdDp ["entries"] [])
    (GS : FnOk P w K mg base CX0 (k + 1) fS fdS ["self"] (spSize C)) (mS : Meth K C "size" fS) (bS : Binds K fdS ["self"] [])
    (GK : FnOk P w K mg base (CX P w) (k + 4) fK fdK ["self", "term"] (spTell P w C C2 rKind)) (mK : Meth K C "kind" fK) (bK : Binds K fdK ["self", "term"] [])
    (GPa : FnOk P w K mg base (CX P w) (k + 4) fPa fdPa ["self", "term"] (spTell P w C C2 rParts)) (mPa : Meth K C "parts" fPa) (bPa : Binds K fdPa ["self", "term"] [])
    (GD : FnOk P w K mg base (CX P w) (k + 4) fD fdD ["self", "term"] (spTell P w C C2 rDepth)) (mD : Meth K C "depth" fD) (bD : Binds K fdD ["self", "term"] [])
    (GW : FnOk P w K mg base (CX P w) (k + 4) fW fdW ["self", "terms"] (spWithin P w C C3)) (mW : Meth K C "within" fW) (bW : Binds K fdW ["self", "terms"] []) :
    FnOk P w K mg base CX0 (k + 7) f fd ["bag", "book", "entries"] (spTold P w C TT) := by
  refine okC F hc scTold (fun vs H Q E h => ?_) (fun A outer s H vs Q E hr h => ?_)
  · obtain ⟨b, g, B, l, es, rfl, _⟩ := h
    rfl
  · obtain ⟨b, g, B, l, es, rfl, hB, hK, hE, lw, hlen, hT, lb, lg, lf, bf, gf, q⟩ := h
    obtain ⟨oc, od, kV, doc, pm, an, cdv, ct, osl, efd, lk, hcd⟩ := W.F.ex
    have bWd := W.b
    rw [efd] at bWd lk
    have T := L.T
    have hqual : (cxOf CX0 P w K mg base nTold "_law_told_right" (defScope sTold) f (.ref c) A outer s H E).nox.env.qual ++ "<lambda>" = lamQ "_law_told_right" := rfl
    refine ⟨_, pss_cons (ps_set (i := 3) scTold.nd rfl (Or.inl rfl) (pe_call GDp (hr.mono (by omega)) (by rfl) gDp kDp bDp .nil pass0 (pa_cons (pv 2) pa_nil)))
      (pss_cons (ps_if (pt_cmpR op_ne (pe_meth0 (pv 1) cB.cls mS GS (hr.mono (by omega)) bS .nil pass0) (pe_callB call_len_seq (by rfl) T.len_ PySem.boot_len (pa_cons (pv 2) pa_nil)) (nomark _)) (pss_one (ps_ret pe_bl)) pss_nil)
      (pss_cons (ps_for PassesOwn.never rfl (pi_range1 (by rfl) L.mr (pa_cons (pe_callB call_len_seq (by rfl) T.len_ PySem.boot_len (pa_cons (pv 2) pa_nil)) pa_nil)) (pg_name (i := 4) scTold.nd rfl (Or.inl rfl))
        (pss_one (ps_if (pt_or (pt_cmpR (op_neD hr.units) (pe_tup (pa_cons (pe_meth (pv 1) cB.cls mK GK (hr.mono (by omega)) bK .nil passL (pa_cons (pv 4) pa_nil)) (pa_cons (pe_meth (pv 1) cB.cls mPa GPa (hr.mono (by omega)) bPa .nil passL (pa_cons (pv 4) pa_nil)) pa_nil))) (pe_ix ix_list (pv 2) (pv 4) (fun _ _ => rfl)) (nomark _))
          (pw_or1 (pt_cmpR op_ne (pe_meth (pv 1) cB.cls mD GD (hr.mono (by omega)) bD .nil passL (pa_cons (pv 4) pa_nil)) (pe_ix ix_list (pv 3) (pv 4) (fun _ _ => rfl)) (nomark _)))) (pss_one (ps_ret pe_bl)) pss_nil)))
      (pss_cons (ps_set (i := 9) scTold.nd rfl (Or.inr rfl) (pe_ifExp (pt_cmpR op_gt (pe_callB call_len_seq (by rfl) T.len_ PySem.boot_len (pa_cons (pv 2) pa_nil)) pe_int (nomark _))
          (pe_lc (te := tCall spPick [] E0 (tCons (tVar 0) (tCons (tCB (rLen K) (tCons (tVar 2) tNil)) tNil))) (own := [("turn", 10)]) (g := gName 10) rfl scTold.nd (pi_range1 (by rfl) L.mr (pa_cons (pe_call L.GP (hr.mono (by omega)) (by rfl) L.gP L.kP L.bP .nil pass0 (pa_cons (pv 0) (pa_cons pe_int pa_nil))) pa_nil))
            (blkOk_by (N := nTold) (sc := defScope sTold) (by decide +kernel)) (fun _ _ _ _ _ => pg_name (i := 10) scTold.nd rfl (Or.inl rfl)) (fun _ _ _ _ _ => pts_nil) (fun _ _ _ _ _ => pe_call L.GP (hr.mono (by omega)) (by rfl) L.gP L.kP L.bP .nil pass0 (pa_cons (pv 0) (pa_cons (pe_callB call_len_seq (by rfl) T.len_ PySem.boot_len (pa_cons (pv 2) pa_nil)) pa_nil))))
          (pe_lst pa_nil)))
      (pss_cons (ps_set (i := 5) scTold.nd rfl (Or.inl rfl) (pe_meth (pv 1) cB.cls mW GW (hr.mono (by omega)) bW .nil passL (pa_cons (pv 9) pa_nil)))
      (pss_cons (ps_if (pt_or (pt_cmpR (op_neD hr.units) (pv 5) (pe_call GWi (hr.mono (by omega)) (by rfl) gWi kWi bWi .nil pass0 (pa_cons (pv 2) (pa_cons (pv 9) pa_nil))) (nomark _))
          (pw_or1 (pt_cmpR (op_neD hr.units) (pe_meth (pv 1) cB.cls mW GW (hr.mono (by omega)) bW .nil passL (pa_cons (pe_callTy call_tuple_of (by rfl) T.tuple_ (by decide +kernel) (pa_cons (pv 9) pa_nil)) pa_nil)) (pv 5) (nomark _)))) (pss_one (ps_ret pe_bl)) pss_nil)
      (pss_cons (ps_expr (pe_bm PySem.F.plainAttrs_list PySem.F.slot_list_append PySem.F.type_list_append mt_append (pv 5) (pa_cons pe_int pa_nil)))
      (pss_cons (ps_set (i := 8) scTold.nd rfl (Or.inr rfl) (pe_call L.GS (hr.mono (by omega)) (by rfl) L.gS L.kS L.bS .nil pass0 (pa_cons (pv 0) (pa_cons (pe_lst (pa_cons (pe_callB call_len_seq (by rfl) T.len_ PySem.boot_len (pa_cons (pv 2) pa_nil)) (pa_cons (pe_un un_neg pe_int) (pa_cons pe_bl (pa_cons pe_non (pa_cons pe_str (pa_cons (pe_tup (pa_cons pe_int pa_nil)) (pa_cons (pe_call0 GDe (hr.mono (by omega)) (by rfl) gDe kDe bDe .nil pass0) pa_nil)))))))) pa_nil))))
      (pss_cons (ps_set (i := 6) scTold.nd rfl (Or.inl rfl) (pe_lst (pa_cons (pe_ix ix_tup (pe_lamcall (T := TT) (t := fun E => tMeth C "kind" (spTell P w C C2 rKind) [] E (tVar 1) (tCons (tVar 8) tNil)) (by rfl) W.g W.F.kp lk hcd bWd scWord rfl (Or.inl rfl) (word_gives W.T) TB rfl (by rw [hqual]; exact hmT) (by rw [hqual]; exact hu) (hr.mono (show k + 6 ≤ k + 6 by omega)) (lamS_by (sc := defScope sTold) (by decide +kernel)) rfl (fun _ _ _ _ _ => rfl)
            (fun A2 outer2 s2 H2 E2 f2 c2 hr2 => pe_meth (pv 1) cB.cls mK GK hr2 bK .nil (passes_call (takes_of (E := E2) rfl rfl rfl rfl) fun _ _ _ _ h => h) (pa_cons (pv 8) pa_nil))) pe_int (fun _ _ => rfl)) pa_nil)))
      (pss_cons (ps_expr (pe_bm PySem.F.plainAttrs_list PySem.F.slot_list_append PySem.F.type_list_append mt_append (pv 6) (pa_cons (pe_ix ix_tup (pe_lamcall (T := TT) (t := fun E => tMeth C "parts" (spTell P w C C2 rParts) [] E (tVar 1) (tCons (tVar 8) tNil)) (by rfl) W.g W.F.kp lk hcd bWd scWord rfl (Or.inl rfl) (word_gives W.T) TB rfl (by rw [hqual]; exact hmT) (by rw [hqual]; exact hu) (hr.mono (show k + 6 ≤ k + 6 by omega)) (lamS_by (sc := defScope sTold) (by decide +kernel)) rfl (fun _ _ _ _ _ => rfl)
            (fun A2 outer2 s2 H2 E2 f2 c2 hr2 => pe_meth (pv 1) cB.cls mPa GPa hr2 bPa .nil (passes_call (takes_of (E := E2) rfl rfl rfl rfl) fun _ _ _ _ h => h) (pa_cons (pv 8) pa_nil))) pe_int (fun _ _ => rfl)) pa_nil)))
      (pss_cons (ps_expr (pe_bm PySem.F.plainAttrs_list PySem.F.slot_list_append PySem.F.type_list_append mt_append (pv 6) (pa_cons (pe_ix ix_tup (pe_lamcall (T := TT) (t := fun E => tMeth C "depth" (spTell P w C C2 rDepth) [] E (tVar 1) (tCons (tVar 8) tNil)) (by rfl) W.g W.F.kp lk hcd bWd scWord rfl (Or.inl rfl) (word_gives W.T) TB rfl (by rw [hqual]; exact hmT) (by rw [hqual]; exact hu) (hr.mono (show k + 6 ≤ k + 6 by omega)) (lamS_by (sc := defScope sTold) (by decide +kernel)) rfl (fun _ _ _ _ _ => rfl)
            (fun A2 outer2 s2 H2 E2 f2 c2 hr2 => pe_meth (pv 1) cB.cls mD GD hr2 bD .nil (passes_call (takes_of (E := E2) rfl rfl rfl rfl) fun _ _ _ _ h => h) (pa_cons (pv 8) pa_nil))) pe_int (fun _ _ => rfl)) pa_nil)))
      (pss_cons (ps_expr (pe_bm PySem.F.plainAttrs_list PySem.F.slot_list_append PySem.F.type_list_append mt_append (pv 6) (pa_cons (pe_ix ix_tup (pe_lamcall (T := TT) (t := fun E => tMeth C "within" (spWithin P w C C3) [] E (tVar 1) (tCons (tOp rCat (tVar 9) (tLst (tCons (tVar 8) tNil))) tNil)) (by rfl) W.g W.F.kp lk hcd bWd scWord rfl (Or.inl rfl) (word_gives W.T) TB rfl (by rw [hqual]; exact hmT) (by rw [hqual]; exact hu) (hr.mono (show k + 6 ≤ k + 6 by omega)) (lamS_by (sc := defScope sTold) (by decide +kernel)) rfl (fun _ _ _ _ _ => rfl)
            (fun A2 outer2 s2 H2 E2 f2 c2 hr2 => pe_meth (pv 1) cB.cls mW GW hr2 bW .nil (passes_call (takes_of (E := E2) rfl rfl rfl rfl) fun _ _ _ _ h => h) (pa_cons (pe_op op_cat (pv 9) (pe_lst (pa_cons (pv 8) pa_nil))) pa_nil))) pe_int (fun _ _ => rfl)) pa_nil)))
      (pss_cons (ps_set (i := 7) scTold.nd rfl (Or.inr rfl) (pe_call L.GS (hr.mono (by omega)) (by rfl) L.gS L.kS L.bS .nil pass0 (pa_cons (pv 0) (pa_cons (pe_lst (pa_cons pe_non (pa_cons pe_int (pa_cons pe_dnewK (pa_cons pe_str (pa_cons (pe_call0 GDe (hr.mono (by omega)) (by rfl) gDe kDe bDe .nil pass0) pa_nil)))))) pa_nil))))
      (pss_cons (ps_expr (pe_bm PySem.F.plainAttrs_list PySem.F.slot_list_append PySem.F.type_list_append mt_append (pv 6) (pa_cons (pe_ix ix_tup (pe_lamcall (T := TT) (t := fun E => tMeth C "within" (spWithin P w C C3) [] E (tVar 1) (tCons (tVar 7) tNil)) (by rfl) W.g W.F.kp lk hcd bWd scWord rfl (Or.inl rfl) (word_gives W.T) TB rfl (by rw [hqual]; exact hmT) (by rw [hqual]; exact hu) (hr.mono (show k + 6 ≤ k + 6 by omega)) (lamS_by (sc := defScope sTold) (by decide +kernel)) rfl (fun _ _ _ _ _ => rfl)
            (fun A2 outer2 s2 H2 E2 f2 c2 hr2 => pe_meth (pv 1) cB.cls mW GW hr2 bW .nil (passes_call (takes_of (E := E2) rfl rfl rfl rfl) fun _ _ _ _ h => h) (pa_cons (pv 7) pa_nil))) pe_int (fun _ _ => rfl)) pa_nil)))
      (pss_one (ps_ret (pe_and (pe_cmpR (op_eqD hr.units) (pv 6) (pe_op op_cat (pe_op op_rep (pe_lst (pa_cons pe_str pa_nil)) pe_int) (pe_op op_rep (pe_lst (pa_cons pe_str pa_nil)) pe_int)) (nomark _))
        (pe_one (pe_cmpR op_eq (pe_meth0 (pv 1) cB.cls mS GS (hr.mono (by omega)) bS .nil pass0) (pe_callB call_len_seq (by rfl) T.len_ PySem.boot_len (pa_cons (pv 2) pa_nil)) (nomark _))))))))))))))))))), ?_⟩
    have big : (2000 : Nat) ≤ sizeLine := by decide
    refine ⟨_, rfl, l, es, rfl, hE, lw.wf.ok, by omega, fun H1 Dd ds s1 nDd hD1 dep => ?_⟩
    have hB1 := hB.same s1
    have hK1 : BookAt P w H1 C B es := hK.same s1
    have hE1 := hE.same s1
    have hT1 := Tabs.ext hT s1
    obtain ⟨Ddb, Ddg⟩ := hB.neb nDd
    obtain ⟨qs, hl1, hql, hqe⟩ := hE1.get
    have lql : (((qs.map V.ref).length : Nat) : Int) = (es.length : Nat) := by rw [List.length_map, hql]
    refine ⟨_, rfl, B.b, B.dx, _, rfl, hK1.ins, rfl, B, _, es, rfl, hK1.kp, _, rfl, l, _, rfl, .inl (.of hl1), rfl, _, rfl, ?_⟩
    rw [lql, decide_eq_true rfl]
    refine iteF ?_
    refine ⟨_, rfl, l, _, rfl, .inl (.of hl1), _, rfl, by omega, by omega, ?_⟩
    refine for_it (walk_range (lo := 0)) (fun i σ G => ∃ x, σ = [some (.ref b), some (.ref B.b), some (.ref l), some (.ref Dd), x, none, none, none, none, none, none] ∧ Same H1 G) ⟨none, rfl, Same.refl _⟩ (fun _ _ _ _ _ => trivial) ?_ ?_
    · rintro i y σ G G' hi ⟨x, rfl, sm⟩ ⟨rfl, rfl⟩
      rw [lql, Int.toNat_natCast] at hi
      have z0 : V.int (0 + (i : Nat)) = V.int (i : Nat) := by rw [Int.zero_add]
      show gName 4 (V.int (0 + (i : Nat))) _ _ _
      rw [z0]
      have hei := List.getElem?_eq_getElem hi
      obtain ⟨qa, hqa, hent⟩ := hqe i _ hei
      have hKG : BookAt P w G' C B es := hK1.same sm
      have nb : belowV (es.length : Nat) (.int (i : Nat)) = true := decide_eq_true ⟨by omega, by omega⟩
      refine ⟨_, rfl, B.b, B.dx, _, rfl, hKG.ins, rfl, _, rfl, B, _, es, .int (i : Nat), "int", rfl, hKG, .int _, fun j ej hj x rx => ?_, fun hb => (by rw [nb] at hb; cases hb)⟩
      obtain rfl : i = j := by injection ej with ej; omega
      obtain ⟨e, he, rfl⟩ := rx
      rw [hei] at he
      cases he
      refine ⟨_, rfl, B.b, B.dx, _, rfl, hKG.ins, rfl, _, rfl, B, _, es, .int (i : Nat), "int", rfl, hKG, .int _, fun j ej hj x rx => ?_, fun hb => (by rw [nb] at hb; cases hb)⟩
      obtain rfl : i = j := by injection ej with ej; omega
      obtain ⟨e, p, he, rfl, hp⟩ := rx
      rw [hei] at he
      cases he
      refine ⟨by show 2 ≤ sizeLine; decide, fun t nt => ?_⟩
      have s2 := same_upd (o := .tup [.str es[i].1, .ref p]) nt
      have sm2 := sm.trans s2
      refine ⟨_, rfl, _, rfl, l, _, _, .ref qa, rfl, rfl, .of (sm2 _ _ hl1), atI_nat (j := i) (by rw [List.getElem?_map, hqa]; rfl), ?_⟩
      have gd := (lw.wf.ok i _ hei).good
      refine ⟨entD es[i], entD es[i], dp_e ⟨p, upd_same, s2 _ _ hp⟩, dp_e (hent.keep fun b xs e => sm2 _ _ e), shaped_e gd, shaped_e gd, _, rfl, ?_⟩
      rw [SeqAt.eqv_refl _ (SeqAt.canLay_of_shaped (shaped_e gd))]
      have hKG2 : BookAt P w (upd G' t (.tup [.str es[i].1, .ref p])) C B es := hKG.same s2
      refine iteF ⟨_, rfl, B.b, B.dx, _, rfl, hKG2.ins, rfl, _, rfl, B, _, es, .int (i : Nat), "int", rfl, hKG2, .int _, fun j ej hj x rx => ?_, fun hb => (by rw [nb] at hb; cases hb)⟩
      obtain rfl : i = j := by injection ej with ej; omega
      obtain ⟨ds', d, hd1, hd2, hd3, rfl⟩ := rx
      have e := DepOk.unique lw.wf.ok hd2 dep
      subst e
      refine ⟨_, rfl, _, rfl, Dd, _, _, .int d, rfl, rfl, .of (sm2 _ _ hD1), atI_nat (j := i) (by rw [List.getElem?_map, hd3]; rfl), rfl, _, rfl, ?_⟩
      rw [decide_eq_true rfl]
      exact iteF ⟨_, rfl, sm2⟩
    rintro σ G ⟨x, rfl, sm⟩
    have hB2 := hB1.same sm
    have hK2 : BookAt P w G C B es := hK1.same sm
    have hE2 := hE1.same sm
    have hT2 := Tabs.ext hT1 sm
    have sHG := s1.trans sm
    have hl2 := sm _ _ hl1
    dsimp only
    refine asg_split (fun σ' G2 => ∃ a, ∃ ts : List Int, σ' = [some (.ref b), some (.ref B.b), some (.ref l), some (.ref Dd), x, none, none, none, none, some (.ref a), none] ∧ BS b g G G2 ∧ BagAt G2 b g ∧ a ≠ b ∧ a ≠ g ∧ G2 a = some (.lst (ts.map .int)) ∧ ts.length ≤ 3 ∧ ∀ i ∈ ts, 0 ≤ i ∧ i < (es.length : Nat)) ?_ ?_
    rotate_left 1
    · intro N hN
      refine ⟨_, rfl, l, _, rfl, .inl (.of hl2), _, _, rfl, rfl, _, rfl, ?_⟩
      refine ite2 (fun h0 => ?_) (fun _ => ?_)
      · have h0 := of_decide_eq_true h0
        refine ⟨_, rfl, b, g, 4, rfl, hB2, by decide, by decide, fun H3 r b3 hB3 r0 r1 => ?_⟩
        refine ⟨_, rfl, by omega, by omega, fun Dt nDt => ?_⟩
        obtain ⟨Dtb, Dtg⟩ := hB3.neb nDt
        refine lcB (walk_range (lo := 0) (n := r.toNat)) (b := b) (b2 := g) (PvI es.length) (Nat.lt_of_lt_of_le (show r.toNat < 4 by omega) (by decide)) nDt hB3 (fun _ _ => trivial) ?_ ?_
        · rintro i y K1 K2 Q' hi sK hBK ⟨rfl, rfl⟩ hq
          have hlK : K2 l = some (.lst (qs.map .ref)) := sK.1 _ _ lb lg (by rw [b3 l lb lg]; exact hl2)
          exact ⟨rfl, _, rfl, _, rfl, l, _, rfl, .inl (.of hlK), b, g, _, rfl, hBK, by omega, by omega, fun H4 r4 bb hBB c0 c1 => hq _ H4 ⟨r4, rfl, c0, by omega⟩ (.but bb) hBB⟩
        · intro H4 xs s4 hB4 hD4 hlx hpx
          obtain ⟨ts, rfl, hts⟩ := ints_pv hpx
          rw [List.length_map] at hlx
          exact hN _ _ ⟨Dt, ts, rfl, (BS.but b3).trans s4, hB4, Dtb, Dtg, hD4, by omega, hts⟩
      · refine ⟨by show 0 ≤ sizeLine; decide, fun t nt => ?_⟩
        obtain ⟨tb, tg⟩ := hB2.neb nt
        exact hN _ _ ⟨t, [], rfl, .same (same_upd nt), hB2.same (same_upd nt), tb, tg, upd_same, by decide, fun i hi => nomatch hi⟩
    rintro σ' G3 ⟨a, ts, rfl, s3, hB3, ab, ag, ha, hts3, hts⟩
    have hK3 : BookAt P w G3 C B es := hK2.fx (L := [b, g]) (.bs s3 (by simp) (by simp)) (fun p hp z => by
      rcases List.mem_cons.mp z with rfl | z
      · exact bf hp
      · rw [List.mem_singleton] at z; rw [z] at hp; exact gf hp) (fun p hp xs e => by
      rcases List.mem_cons.mp hp with rfl | hp
      · exact (hB2.notup e).1 rfl
      · rw [List.mem_singleton] at hp; rw [hp] at e; exact (hB2.notup e).2 rfl)
    have hE3 := hE2.bs hB2 s3 lb lg
    have hT3 := Tabs.bs hT2 hB2 s3
    have FH3 : FX [b, g] H G3 := (FX.same sHG).trans (.bs s3 (by simp) (by simp))
    refine ⟨_, rfl, B.b, B.dx, _, rfl, hK3.ins, rfl, _, rfl, B, es, .ref a, some ts, rfl, hK3, .some (.inl ha) (by omega) hts, fun H4 D4 tD4 => ?_⟩
    obtain ⟨s4, nD4, ys, hy1, hy2, hy3, hy4, hy5⟩ := tD4
    have hE4 := hE3.same s4
    -- told is what the law's own within tells
    refine ⟨_, rfl, _, rfl, _, rfl, l, a, es, ts, rfl, hE4, lw.wf.ok, by omega, .inl (s4 _ _ ha), by omega, hts, fun H5 D5 tD5 => ?_⟩
    obtain ⟨s5, nD5, zs, hz1, hz2, hz3, hz4, hz5⟩ := tD5
    have e1 : zs = ys := sorted_eq hz2 hy2 hz3 hy3 fun i => (hz4 i).trans (hy4 i).symm
    subst e1
    refine ⟨.list (zs.map .int), .list (zs.map .int), .lst (.of (s5 _ _ hy1)) (dp_ints _), .lst (.of hz1) (dp_ints _), shaped_ints _, shaped_ints _, _, rfl, ?_⟩
    rw [SeqAt.eqv_refl _ (SeqAt.canLay_of_shaped (shaped_ints _))]
    refine iteF ?_
    have s45 := s4.trans s5
    have hK5 : BookAt P w H5 C B es := hK3.same s45
    refine ⟨_, rfl, B.b, B.dx, _, rfl, hK5.ins, rfl, _, rfl, a, _, rfl, .inl ⟨.of (s45 _ _ ha), fun t nt => ?_⟩⟩
    have s6 := same_upd (o := .tup (ts.map V.int)) nt
    have hK6 : BookAt P w (upd H5 t (.tup (ts.map V.int))) C B es := hK5.same s6
    refine ⟨B, es, .ref t, some ts, rfl, hK6, .some (.inr upd_same) (by omega) hts, fun H7 D7 tD7 => ?_⟩
    obtain ⟨s7, nD7, ws, hw1, hw2, hw3, hw4, hw5⟩ := tD7
    have e2 : ws = zs := sorted_eq hw2 hz2 hw3 hz3 fun i => (hw4 i).trans (hz4 i).symm
    subst e2
    have s57 := s6.trans s7
    refine ⟨_, rfl, .list (ws.map .int), .list (ws.map .int), .lst (.of hw1) (dp_ints _), .lst (.of (s57 _ _ (s5 _ _ hy1))) (dp_ints _), shaped_ints _, shaped_ints _, _, rfl, ?_⟩
    rw [SeqAt.eqv_refl _ (SeqAt.canLay_of_shaped (shaped_ints _))]
    refine iteF ?_
    have s47 := s45.trans s57
    have hy7 := s57 _ _ (s5 _ _ hy1)
    obtain ⟨D4b, D4g⟩ := hB3.neb nD4
    have sH3 : BS b g H G3 := (BS.same sHG).trans s3
    have sH7 := sH3.trans (.same s47)
    have nD4H : H D4 = none := sH3.2 _ D4b D4g nD4
    refine ⟨_, rfl, .inl ⟨rfl, _, .of hy7⟩, D4, _, _, rfl, rfl, hy7, by rw [List.length_map]; omega, ?_⟩
    generalize hH8 : upd H7 D4 (.lst (ws.map V.int ++ [.int 0])) = H8
    have b8 : ∀ y o, y ≠ D4 → H7 y = some o → H8 y = some o := fun y o hy e => by rw [← hH8, upd_ne hy]; exact e
    have sH8 : BS b g H H8 := .of fun p o h1 h2 e => b8 _ _ (ne_of_none e nD4H) (sH7.1 _ _ h1 h2 e)
    have hB8 : BagAt H8 b g := by rw [← hH8]; exact (hB3.same s47).updN D4b D4g
    have bgf : ∀ p ∈ B.foot, p ∉ [b, g] := fun p hp z => by
      rcases List.mem_cons.mp z with rfl | z
      · exact bf hp
      · rw [List.mem_singleton] at z; rw [z] at hp; exact gf hp
    have bgt : ∀ {G : Hp}, BagAt G b g → ∀ p ∈ [b, g], ∀ xs, G p ≠ some (.tup xs) := fun hG p hp xs e => by
      rcases List.mem_cons.mp hp with rfl | hp
      · exact (hG.notup e).1 rfl
      · rw [List.mem_singleton] at hp; rw [hp] at e; exact (hG.notup e).2 rfl
    have hK8 : BookAt P w H8 C B es := hK.fx (L := [b, g]) (.bs sH8 (by simp) (by simp)) bgf (bgt hB)
    have hE8 := hE.bs hB sH8 lb lg
    have hT8 := Tabs.bs hT hB sH8
    obtain ⟨qs8, hl8, hql8, _⟩ := hE8.get
    have a8 : H8 a = some (.lst (ts.map .int)) := b8 _ _ (ne_of_none ha nD4) (s47 _ _ ha)
    -- the odd one
    refine ⟨_, rfl, _, rfl, l, _, rfl, .inl (.of hl8), _, rfl, by show 1 ≤ sizeLine; decide, fun t1 nt1 => ?_⟩
    have v1 := same_upd (o := .tup [.int 0]) nt1
    refine ⟨rfl, fun H9 D9 s9 nD9 dD9 => ?_⟩
    have hB9 := (hB8.same v1).same s9
    refine ⟨by show 7 ≤ sizeLine; decide, fun ol nol => ?_⟩
    obtain ⟨olb, olg⟩ := hB9.neb nol
    have v2 := same_upd (o := .lst [.int ((qs8.map V.ref).length : Nat), .int (-1), .bl true, .non, .str "0", .ref t1, .ref D9]) nol
    have n1 := hB8.neb nt1
    have n9 := (hB8.same v1).neb nD9
    refine ⟨b, g, ol, _, rfl, hB9.same v2, .of upd_same, olb, olg, by simp, by show 7 < 1073741824; decide, fun Ha odd ba hBa hodd => ?_⟩
    have v12 := v1.trans (s9.trans v2)
    have godd : (∃ t, ThT Ha odd t) ∧ belowV (es.length : Nat) odd = false := by
      obtain ⟨dx, dys, hd1, hd2⟩ := dD9
      simp only [List.mem_cons, List.not_mem_nil, or_false] at hodd
      rcases hodd with rfl | rfl | rfl | rfl | rfl | rfl | rfl
      · exact ⟨⟨_, .int _⟩, decide_eq_false (by rw [List.length_map, hql8]; omega)⟩
      · exact ⟨⟨_, .int _⟩, show decide (0 ≤ (-1 : Int) ∧ (-1 : Int) < (es.length : Nat)) = false from decide_eq_false (by omega)⟩
      · exact ⟨⟨_, .bl _⟩, rfl⟩
      · exact ⟨⟨_, .non⟩, rfl⟩
      · exact ⟨⟨_, .str _⟩, rfl⟩
      · exact ⟨⟨_, .tup (show Ha t1 = some (.tup [.int 0]) by rw [ba t1 n1.1 n1.2]; exact v2 _ _ (s9 _ _ upd_same))⟩, rfl⟩
      · exact ⟨⟨_, .lst (show Ha D9 = some (.lst [.ref dx]) by rw [ba D9 n9.1 n9.2]; exact v2 _ _ hd1)⟩, rfl⟩
    obtain ⟨⟨ot, hot⟩, hnb⟩ := godd
    have sHa : BS b g H Ha := sH8.trans ((BS.same v12).trans (.but ba))
    have hKa : BookAt P w Ha C B es := hK.fx (L := [b, g]) (.bs sHa (by simp) (by simp)) bgf (bgt hB)
    have hTa := Tabs.bs hT hB sHa
    have aa : Ha a = some (.lst (ts.map .int)) := by rw [ba a ab ag]; exact v12 _ _ a8
    have noint : ∀ i : Nat, odd = .int (i : Nat) → i < es.length → False := fun i e hi => by
      rw [e] at hnb
      exact absurd (show (0 : Int) ≤ (i : Nat) ∧ ((i : Nat) : Int) < (es.length : Nat) from ⟨by omega, by omega⟩) (of_decide_eq_false hnb)
    have ntb : ∀ {G : Hp} {xs : List V} {y : Addr}, G y = some (.lst xs) → ∀ ps, HO.lst xs ≠ .tbl ps := fun _ ps z => nomatch z
    -- the words
    refine ⟨hTa, fun X1 x1 hX1 => ?_⟩
    have hKX1 : BookAt P w X1 C B es := hKa.fx (L := []) (.ext x1) (fun _ _ z => nomatch z) (fun _ z => nomatch z)
    refine ⟨_, rfl, B.b, B.dx, _, rfl, hKX1.ins, rfl, _, rfl, B, _, es, odd, ot, rfl, hKX1, hot.ext x1, fun i e hi => (noint i e hi).elim, fun _ => ⟨C2, "term", by simp [wordsOf], rfl, rfl, fun p1 Z1 y1 np1 hp1 => ?_⟩⟩
    refine ⟨p1, _, _, .str "term", rfl, rfl, .of hp1, rfl, by show 1 ≤ sizeLine; decide, fun wl nwl => ?_⟩
    have r1 := same_upd (o := .lst [.str "term"]) nwl
    have w1 : (upd Z1 wl (.lst [.str "term"])) wl = some (.lst [.str "term"]) := upd_same
    have F1 : FX [wl] Ha (upd Z1 wl (.lst [.str "term"])) := (FX.ext x1).trans (.same (y1.trans r1))
    have hT1 := Tabs.ext hX1 (y1.trans r1)
    have nwl0 : X1 wl = none := y1.free nwl
    have hotF : ∀ {G : Hp}, FX [wl] Ha G → ThT G odd ot := fun {G} Fg => by
      have nw : ∀ {y : Addr} {o : HO}, Ha y = some o → (∀ ps, o ≠ .tbl ps) → y ≠ wl := fun {y o} e n z => by
        have := x1 _ _ e n
        rw [z, nwl0] at this; cases this
      cases hot with
      | non => exact .non
      | bl b => exact .bl b
      | int i => exact .int i
      | str x => exact .str x
      | lst h => exact .lst (Fg _ _ (by simp [nw h (fun ps z => nomatch z)]) h fun ps z => nomatch z)
      | tup h => exact .tup (Fg _ _ (by simp [nw h (fun ps z => nomatch z)]) h fun ps z => nomatch z)
      | dct h => exact .dct (Fg _ _ (by simp [nw h (fun ps z => nomatch z)]) h fun ps z => nomatch z)
    have bookF : ∀ {G : Hp}, FX [wl] Ha G → BookAt P w G C B es := fun {G} Fg => hKa.fx Fg (fun p hp z => by
      obtain ⟨o, ho, hn⟩ := hKa.nt p hp
      have := x1 _ _ ho hn
      rw [List.mem_singleton] at z
      rw [z, nwl0] at this; cases this) (fun p hp xs e => by
      have := x1 _ _ e (fun ps z => nomatch z)
      rw [List.mem_singleton] at hp
      rw [hp, nwl0] at this; cases this)
    generalize upd Z1 wl (.lst [.str "term"]) = S1 at *
    refine ⟨_, rfl, .inl ⟨rfl, _, .of w1⟩, hT1, fun X2 x2 hX2 => ?_⟩
    have f2 : FX [wl] Ha X2 := F1.trans (.ext x2)
    have hKX2 := bookF f2
    refine ⟨_, rfl, B.b, B.dx, _, rfl, hKX2.ins, rfl, _, rfl, B, _, es, odd, ot, rfl, hKX2, hotF f2, fun i e hi => (noint i e hi).elim, fun _ => ⟨C2, "term", by simp [wordsOf], rfl, rfl, fun p2 Z2 y2 np2 hp2 => ?_⟩⟩
    have w2' : Z2 wl = some (.lst [.str "term"]) := y2 _ _ (x2 _ _ w1 fun ps z => nomatch z)
    refine ⟨p2, _, _, .str "term", rfl, rfl, .of hp2, rfl, wl, _, _, rfl, rfl, w2', by show 1 < sizeLine; decide, ?_⟩
    have w2 : (upd Z2 wl (.lst [.str "term", .str "term"])) wl = some (.lst [.str "term", .str "term"]) := upd_same
    have F2 : FX [wl] Ha (upd Z2 wl (.lst [.str "term", .str "term"])) := f2.trans ((FX.same y2).trans (.upd (by simp)))
    have hT2 : Tabs TT (upd Z2 wl (.lst [.str "term", .str "term"])) := L2.My.Tabs.lst (Tabs.ext hX2 y2) w2' (.upd (by simp))
    show tNext _ _ (upd Z2 wl (.lst [.str "term", .str "term"]))
    generalize upd Z2 wl (.lst [.str "term", .str "term"]) = S2 at *
    refine ⟨_, rfl, .inl ⟨rfl, _, .of w2⟩, hT2, fun X3 x3 hX3 => ?_⟩
    have f3 : FX [wl] Ha X3 := F2.trans (.ext x3)
    have hKX3 := bookF f3
    refine ⟨_, rfl, B.b, B.dx, _, rfl, hKX3.ins, rfl, _, rfl, B, _, es, odd, ot, rfl, hKX3, hotF f3, fun i e hi => (noint i e hi).elim, fun _ => ⟨C2, "term", by simp [wordsOf], rfl, rfl, fun p3 Z3 y3 np3 hp3 => ?_⟩⟩
    have w3' : Z3 wl = some (.lst [.str "term", .str "term"]) := y3 _ _ (x3 _ _ w2 fun ps z => nomatch z)
    refine ⟨p3, _, _, .str "term", rfl, rfl, .of hp3, rfl, wl, _, _, rfl, rfl, w3', by show 2 < sizeLine; decide, ?_⟩
    have w3 : (upd Z3 wl (.lst [.str "term", .str "term", .str "term"])) wl = some (.lst [.str "term", .str "term", .str "term"]) := upd_same
    have F3 : FX [wl] Ha (upd Z3 wl (.lst [.str "term", .str "term", .str "term"])) := f3.trans ((FX.same y3).trans (.upd (by simp)))
    have hT3 : Tabs TT (upd Z3 wl (.lst [.str "term", .str "term", .str "term"])) := L2.My.Tabs.lst (Tabs.ext hX3 y3) w3' (.upd (by simp))
    show tNext _ _ (upd Z3 wl (.lst [.str "term", .str "term", .str "term"]))
    generalize upd Z3 wl (.lst [.str "term", .str "term", .str "term"]) = S3 at *
    have nwA : ∀ {y : Addr} {o : HO}, Ha y = some o → (∀ ps, o ≠ .tbl ps) → y ≠ wl := fun {y o} e n z => by
      have := x1 _ _ e n
      rw [z, nwl0] at this; cases this
    have awl := nwA aa (fun ps z => nomatch z)
    refine ⟨_, rfl, .inl ⟨rfl, _, .of w3⟩, hT3, fun X4 x4 hX4 => ?_⟩
    have f4 : FX [wl] Ha X4 := F3.trans (.ext x4)
    have hKX4 := bookF f4
    have a4 : X4 a = some (.lst (ts.map .int)) := f4 _ _ (by simp [awl]) aa fun ps z => nomatch z
    refine ⟨_, rfl, B.b, B.dx, _, rfl, hKX4.ins, rfl, _, rfl, _, rfl, by show 1 ≤ sizeLine; decide, fun l1 nl1 => ?_⟩
    have c1 := same_upd (o := .lst [odd]) nl1
    refine ⟨a, l1, _, _, rfl, rfl, c1 _ _ a4, upd_same, by rw [List.length_map]; exact Nat.le_trans (Nat.add_le_add_right hts3 _) (by show 4 ≤ sizeLine; decide), fun l2 nl2 => ?_⟩
    have c2 := same_upd (o := .lst (ts.map V.int ++ [odd])) nl2
    have c12 := c1.trans c2
    have hK4 : BookAt P w (upd (upd X4 l1 (.lst [odd])) l2 (.lst (ts.map V.int ++ [odd]))) C B es := hKX4.same c12
    refine ⟨B, es, .ref l2, none, rfl, hK4, .none2 (.inl upd_same) (by rw [List.length_append, List.length_map, List.length_singleton]; omega) (fun x hx => ?_) ?_, fun Z4 y4 => ⟨C3, "terms", by simp [wordsOf], rfl, rfl, fun p4 Z5 y5 np4 hp4 => ?_⟩⟩
    · rcases List.mem_append.mp hx with hx | hx
      · obtain ⟨i, _, rfl⟩ := List.mem_map.mp hx
        exact ⟨_, .int i⟩
      · rw [List.mem_singleton] at hx
        rw [hx]
        exact ⟨ot, (hotF f4).keep c12⟩
    · rw [List.all_append]
      simp [hnb]
    have y45 := c12.trans (y4.trans y5)
    have w4' : Z5 wl = some (.lst [.str "term", .str "term", .str "term"]) := y45 _ _ (x4 _ _ w3 fun ps z => nomatch z)
    refine ⟨p4, _, _, .str "terms", rfl, rfl, .of hp4, rfl, wl, _, _, rfl, rfl, w4', by show 3 < sizeLine; decide, ?_⟩
    have w4 : (upd Z5 wl (.lst [.str "term", .str "term", .str "term", .str "terms"])) wl = some (.lst [.str "term", .str "term", .str "term", .str "terms"]) := upd_same
    have F4 : FX [wl] Ha (upd Z5 wl (.lst [.str "term", .str "term", .str "term", .str "terms"])) := f4.trans ((FX.same y45).trans (.upd (by simp)))
    have hT4 : Tabs TT (upd Z5 wl (.lst [.str "term", .str "term", .str "term", .str "terms"])) := L2.My.Tabs.lst (Tabs.ext hX4 y45) w4' (.upd (by simp))
    show tNext _ _ (upd Z5 wl (.lst [.str "term", .str "term", .str "term", .str "terms"]))
    generalize upd Z5 wl (.lst [.str "term", .str "term", .str "term", .str "terms"]) = S4 at *
    have bwl : b ≠ wl := by
      obtain ⟨_, ns, sd, n, c, e1, _, _⟩ := id hBa
      exact nwA e1 fun ps z => nomatch z
    have gwl : g ≠ wl := by
      obtain ⟨_, ns, sd, n, c, _, e2, _⟩ := id hBa
      exact nwA e2 fun ps z => nomatch z
    have hB4 : BagAt S4 b g := hBa.fx F4 (by simp [bwl]) (by simp [gwl])
    -- what is no list of terms
    refine ⟨_, rfl, fun dk ndk => ?_⟩
    have d1 := same_upd (o := .dK []) ndk
    refine ⟨rfl, fun S5 D5 s5 nD5 dD5 => ?_⟩
    have hB5 := (hB4.same d1).same s5
    refine ⟨by show 5 ≤ sizeLine; decide, fun ol2 nol2 => ?_⟩
    obtain ⟨ol2b, ol2g⟩ := hB5.neb nol2
    have d2 := same_upd (o := .lst [.non, .int 0, .ref dk, .str "0", .ref D5]) nol2
    have ndk2 := hB4.neb ndk
    have nD52 := (hB4.same d1).neb nD5
    refine ⟨b, g, ol2, _, rfl, hB5.same d2, .of upd_same, ol2b, ol2g, by simp, by show 5 < 1073741824; decide, fun S6 nv b6 hB6 hnv => ?_⟩
    have d12 := d1.trans (s5.trans d2)
    have s46 : BS b g S4 S6 := (BS.same d12).trans (.but b6)
    have hnone : (∃ t, ThT S6 nv t ∧ t ≠ "list" ∧ t ≠ "tuple") ∨ ∃ D x ys, nv = .ref D ∧ S6 D = some (.lst [.ref x]) ∧ S6 x = some (.tup ys) := by
      obtain ⟨dx, dys, hd1, hd2⟩ := dD5
      simp only [List.mem_cons, List.not_mem_nil, or_false] at hnv
      rcases hnv with rfl | rfl | rfl | rfl | rfl
      · exact .inl ⟨_, .non, by decide, by decide⟩
      · exact .inl ⟨_, .int _, by decide, by decide⟩
      · exact .inl ⟨_, .dct (show S6 dk = some (.dK []) by rw [b6 dk ndk2.1 ndk2.2]; exact d2 _ _ (s5 _ _ upd_same)), by decide, by decide⟩
      · exact .inl ⟨_, .str _, by decide, by decide⟩
      · have := (hB5.same d2).notup (d2 _ _ hd2)
        exact .inr ⟨D5, dx, dys, rfl, by rw [b6 D5 nD52.1 nD52.2]; exact d2 _ _ hd1, by rw [b6 dx this.1 this.2]; exact d2 _ _ hd2⟩
    have w6 : S6 wl = some (.lst [.str "term", .str "term", .str "term", .str "terms"]) := s46.1 _ _ bwl.symm gwl.symm w4
    have hT6 := Tabs.bs hT4 hB4 s46
    have hK6 : BookAt P w S6 C B es := (bookF F4).fx (L := [b, g]) (.bs s46 (by simp) (by simp)) bgf (bgt hB4)
    refine ⟨_, rfl, .inl ⟨rfl, _, .of w6⟩, hT6, fun X7 x7 hX7 => ?_⟩
    have hK7 : BookAt P w X7 C B es := hK6.fx (L := []) (.ext x7) (fun _ _ z => nomatch z) (fun _ z => nomatch z)
    have hwd : WDue X7 es.length nv none := by
      rcases hnone with ⟨t, h1, h2, h3⟩ | ⟨D, x, ys, rfl, h1, h2⟩
      · exact .none1 (h1.ext x7) h2 h3
      · refine .none2 (.inl (x7 _ _ h1 fun ps z => nomatch z)) (by show 1 ≤ 100000; decide) (fun y hy => ?_) rfl
        rw [List.mem_singleton] at hy
        rw [hy]
        exact ⟨_, .tup (x7 _ _ h2 fun ps z => nomatch z)⟩
    refine ⟨_, rfl, B.b, B.dx, _, rfl, hK7.ins, rfl, _, rfl, B, es, nv, none, rfl, hK7, hwd, fun Z7 y7 => ⟨C3, "terms", by simp [wordsOf], rfl, rfl, fun p7 Z8 y8 np7 hp7 => ?_⟩⟩
    have y78 := y7.trans y8
    have w7' : Z8 wl = some (.lst [.str "term", .str "term", .str "term", .str "terms"]) := y78 _ _ (x7 _ _ w6 fun ps z => nomatch z)
    refine ⟨p7, _, _, .str "terms", rfl, rfl, .of hp7, rfl, wl, _, _, rfl, rfl, w7', by show 4 < sizeLine; decide, ?_⟩
    have w7 : (upd Z8 wl (.lst [.str "term", .str "term", .str "term", .str "terms", .str "terms"])) wl = some (.lst [.str "term", .str "term", .str "term", .str "terms", .str "terms"]) := upd_same
    have F7 : FX [wl] S6 (upd Z8 wl (.lst [.str "term", .str "term", .str "term", .str "terms", .str "terms"])) := (FX.ext x7).trans ((FX.same y78).trans (.upd (by simp)))
    have hT7 : Tabs TT (upd Z8 wl (.lst [.str "term", .str "term", .str "term", .str "terms", .str "terms"])) := L2.My.Tabs.lst (Tabs.ext hX7 y78) w7' (.upd (by simp))
    show tNext _ _ (upd Z8 wl (.lst [.str "term", .str "term", .str "term", .str "terms", .str "terms"]))
    generalize upd Z8 wl (.lst [.str "term", .str "term", .str "term", .str "terms", .str "terms"]) = S7 at *
    refine ⟨_, rfl, by show 1 ≤ sizeLine; decide, fun m1 nm1 => ?_⟩
    have z1 := same_upd (o := .lst [.str "term"]) nm1
    refine ⟨m1, 3, _, rfl, rfl, upd_same, by decide, by decide, by show 1 * 3 ≤ sizeLine; decide, fun m2 nm2 => ?_⟩
    have z2 := same_upd (o := .lst (List.replicate (3 : Int).toNat [.str "term"]).flatten) nm2
    refine ⟨by show 1 ≤ sizeLine; decide, fun m3 nm3 => ?_⟩
    have z3 := same_upd (o := .lst [.str "terms"]) nm3
    refine ⟨m3, 2, _, rfl, rfl, upd_same, by decide, by decide, by show 1 * 2 ≤ sizeLine; decide, fun m4 nm4 => ?_⟩
    have z4 := same_upd (o := .lst (List.replicate (2 : Int).toNat [.str "terms"]).flatten) nm4
    refine ⟨m2, m4, _, _, rfl, rfl, z4 _ _ (z3 _ _ upd_same), upd_same, by show 3 + 2 ≤ sizeLine; decide, fun m5 nm5 => ?_⟩
    have z5 := same_upd (o := .lst ((List.replicate (3 : Int).toNat [.str "term"]).flatten ++ (List.replicate (2 : Int).toNat [.str "terms"]).flatten)) nm5
    have z := z1.trans (z2.trans (z3.trans (z4.trans z5)))
    have shw : SeqAt.shaped (.list ((["term", "term", "term", "terms", "terms"] : List Str).map .str)) = true := by decide +kernel
    refine ⟨.list ((["term", "term", "term", "terms", "terms"] : List Str).map .str), .list ((["term", "term", "term", "terms", "terms"] : List Str).map .str), .lst (.of (z _ _ w7)) (dp_strs ["term", "term", "term", "terms", "terms"]), .lst (.of (show _ = some (.lst ((["term", "term", "term", "terms", "terms"] : List Str).map .str)) from upd_same)) (dp_strs _), shw, shw, ?_⟩
    rw [SeqAt.eqv_refl _ (SeqAt.canLay_of_shaped shw)]
    have FHa : FX [b, g] H S4 := fun p o hp e n => by
      have h1 : Ha p = some o := sHa.1 p o (fun z => hp (by simp [z])) (fun z => hp (by simp [z])) e
      exact F4 p o (by simp [nwA h1 n]) h1 n
    have FH6 : FX [b, g] H S6 := FHa.trans (.bs s46 (by simp) (by simp))
    have nwH : ∀ {p : Addr} {o : HO}, p ∉ [b, g] → H p = some o → (∀ ps, o ≠ .tbl ps) → p ≠ wl := fun {p o} hp e n => nwA (sHa.1 p o (fun z => hp (by simp [z])) (fun z => hp (by simp [z])) e) n
    have FH7 : FX [b, g] H S7 := fun p o hp e n => F7 p o (by simp [nwH hp e n]) (FH6 p o hp e n) n
    have FHz := FH7.trans (.same z)
    have hKz := hK.fx FHz bgf (bgt hB)
    have hEz := hE.fx FHz (by simp [lb, lg]) (bgt hB)
    obtain ⟨qz, hlz, hqzl, _⟩ := hEz.get
    have hB7 : BagAt S7 b g := hB6.fx F7 (by simp [bwl]) (by simp [gwl])
    refine ⟨_, rfl, iteT ⟨_, rfl, B.b, B.dx, _, rfl, hKz.ins, rfl, B, _, es, rfl, hKz.kp, _, rfl, l, _, rfl, .inl (.of hlz), rfl, ?_⟩⟩
    have e9 : decide (V.int (es.length : Nat) = V.int ((qz.map V.ref).length : Nat)) = true := by rw [List.length_map, hqzl]; exact decide_eq_true rfl
    show Q (.bl (decide (V.int (es.length : Nat) = V.int ((qz.map V.ref).length : Nat)))) _
    rw [e9]
    exact q _ FHz (hB7.same z) (Tabs.ext hT7 z)
end
end L2.My
end
section
set_option Elab.async false
set_option linter.all false
set_option maxRecDepth 100000
set_option maxHeartbeats 4000000
namespace L2.My
open PySem PySem.Spec PyProof.Rows LamX
abbrev sLaw : Stmt := top 37
def spLaw (K : PySem.W.Frag) (TT : List (Addr × Str)) : Sp := fun vs H Q _ => ∃ (a : Addr) (ns : List Int), vs = [.ref a] ∧ SqL K H a (ns.map V.int) ∧ ns.length ≤ 63 ∧ Tabs TT H ∧ ∀ H', Q (.bl true) H'
/-- what == asks of the class -/
structure BkE (K : PySem.W.Frag) (C f : Addr) : Prop where
  eq : PySem.W.findIn K (.ref C) "__eq__" = some (some (.ref f))
  fn : PySem.W.isFn K (.ref f) = true
  ne : PySem.W.findIn K (.ref C) "__ne__" = some (some (.builtin "object.__ne__"))
  mro : PySem.W.mroIn K C (.type "object") = some true
  nfl : PySem.W.notFirst K C (.type "list") = true
  kl : PySem.W.kitOne K (.type "list") (.ref C) = some false
section
variable {P : Program} {w : World} {K : PySem.W.Frag} {mg : Str → Option Value} {base : Heap}
abbrev nLaw : List Str := ["script", "bag", "book", "entries", "turn", "other", "beside"]
theorem scLaw : FnScope nLaw ["script"] (defScope sLaw) := ⟨rfl, rfl, rfl, by decide +kernel, rfl, by decide +kernel, by decide +kernel⟩
theorem ok_law {f fB fR fT fK fI fC fE C : Addr} {fd fdB fdR fdT fdK fdI fdC fdE : FuncData} {k : Nat} {TT : List (Addr × Str)} (F : Fun K "law" "law" sLaw f fd) (L : LfTxt P w K mg base k) (cB : BkC K C) (ci : BkI K C) (ce : BkE K C fE) (gC : mg "Book" = some (.ref C)) (M : Mk K C fI)
    (GB : FnOk P w K mg base CX0 (k + 1) fB fdB ["script"] (spBag K)) (kB : PySem.W.keepIn K (.ref fB) = true) (gB : mg "_law_bag" = some (.ref fB)) (bB : Binds K fdB ["script"] [])
    (GI : FnOk P w K mg base CX0 (k + 1) fI fdI ["self"] (spInit P w C)) (bI : Binds K fdI ["self"] [])
    (GR : FnOk P w K mg base CX0 (k + 7) fR fdR ["bag", "book", "entries"] (spPutR P w C TT)) (kR : PySem.W.keepIn K (.ref fR) = true) (gR : mg "_law_put_right" = some (.ref fR)) (bR : Binds K fdR ["bag", "book", "entries"] [])
    (GT : FnOk P w K mg base CX0 (k + 7) fT fdT ["bag", "book", "entries"] (spTold P w C TT)) (kT : PySem.W.keepIn K (.ref fT) = true) (gT : mg "_law_told_right" = some (.ref fT)) (bT : Binds K fdT ["bag", "book", "entries"] [])
    (GK : FnOk P w K mg base CX0 (k + 5) fK fdK ["entries"] (spBook P w C)) (kK : PySem.W.keepIn K (.ref fK) = true) (gK : mg "_law_book" = some (.ref fK)) (bK : Binds K fdK ["entries"] [])
    (GC : FnOk P w K mg base CX0 (k + 3) fC fdC ["self"] (spCopy P w C)) (mC : Meth K C "copy" fC) (bC : Binds K fdC ["self"] [])
    (GE : FnOk P w K mg base CX0 (k + 1) fE fdE ["self", "other"] (spEqB P w K C)) (bE : Binds K fdE ["self", "other"] []) : FnOk P w K mg base CX0 (k + 9) f fd ["script"] (spLaw K TT) := by
  refine F.ok scLaw (fun vs H Q E h => ?_) (fun cdv A outer s H vs Q E hr h => ?_)
  · obtain ⟨a, ns, rfl, _⟩ := h
    rfl
  · obtain ⟨a, ns, rfl, hS, hlen, hT, q⟩ := h
    have T := L.T
    have hr7 := hr.mono (show k + 7 ≤ k + 8 by omega)
    refine ⟨_, pss_cons (ps_set (i := 1) scLaw.nd rfl (Or.inl rfl) (pe_call GB (hr.mono (by omega)) (by rfl) gB kB bB .nil pass0 (pa_cons (pv 0) pa_nil)))
      (pss_cons (ps_par (i := 2) (j := 3) rfl scLaw.nd rfl rfl (by decide) rfl rfl (pa_cons (pe_make0 M GI (hr.mono (by omega)) (by rfl) gC bI .nil pass0) (pa_cons (pe_lst pa_nil) pa_nil)) rfl)
      (pss_cons (ps_for PassesOwn.never rfl (pi_range1 (by rfl) L.mr (pa_cons (pe_op op_add pe_int (pe_call L.GP (hr.mono (by omega)) (by rfl) L.gP L.kP L.bP .nil pass0 (pa_cons (pv 1) (pa_cons pe_int pa_nil)))) pa_nil)) (pg_name (i := 4) scLaw.nd rfl (Or.inl rfl))
        (pss_one (ps_if (pt_not (pt_val (pe_call GR hr7 (by rfl) gR kR bR .nil pass0 (pa_cons (pv 1) (pa_cons (pv 2) (pa_cons (pv 3) pa_nil)))))) (pss_one (ps_ret pe_bl)) pss_nil)))
      (pss_cons (ps_if (pt_not (pt_val (pe_call GT hr7 (by rfl) gT kT bT .nil pass0 (pa_cons (pv 1) (pa_cons (pv 2) (pa_cons (pv 3) pa_nil)))))) (pss_one (ps_ret pe_bl)) pss_nil)
      (pss_cons (ps_par (i := 5) (j := 6) rfl scLaw.nd rfl rfl (by decide) rfl rfl (pa_cons (pe_meth0 (pv 2) cB.cls mC GC (hr.mono (by omega)) bC .nil pass0) (pa_cons (pe_callTy call_list_of (by rfl) T.list_ (by decide +kernel) (pa_cons (pv 3) pa_nil)) pa_nil)) rfl)
      (pss_cons (ps_if (pt_or (pt_cmpR (op_neO (C := C) GE (hr.mono (by omega)) ce.eq ce.fn bE pass0 ce.ne ce.mro) (pv 5) (pv 2) (nomark _)) (pw_or (pt_cmpR (op_neO (C := C) GE (hr.mono (by omega)) ce.eq ce.fn bE pass0 ce.ne ce.mro) (pv 2) (pe_call GK (hr.mono (by omega)) (by rfl) gK kK bK .nil pass0 (pa_cons (pv 3) pa_nil)) (nomark _))
          (pw_or1 (pt_cmpR (op_eqO (C := C) GE (hr.mono (by omega)) ce.eq ce.fn bE pass0) (pv 2) (pv 3) (nomark _))))) (pss_one (ps_ret pe_bl)) pss_nil)
      (pss_cons (ps_for PassesOwn.never rfl (pi_range1 (by rfl) L.mr (pa_cons (pe_call L.GP (hr.mono (by omega)) (by rfl) L.gP L.kP L.bP .nil pass0 (pa_cons (pv 1) (pa_cons pe_int pa_nil))) pa_nil)) (pg_name (i := 4) scLaw.nd rfl (Or.inl rfl))
        (pss_one (ps_if (pt_not (pt_val (pe_call GR hr7 (by rfl) gR kR bR .nil pass0 (pa_cons (pv 1) (pa_cons (pv 5) (pa_cons (pv 6) pa_nil)))))) (pss_one (ps_ret pe_bl)) pss_nil)))
      (pss_cons (ps_if (pt_cmpR op_ne (pe_cmpR (op_eqO (C := C) GE (hr.mono (by omega)) ce.eq ce.fn bE pass0) (pv 5) (pv 2) (nomark _)) (pe_cmpR (op_eqD hr.units) (pv 6) (pv 3) (nomark _)) (nomark _)) (pss_one (ps_ret pe_bl)) pss_nil)
      (pss_one (ps_ret (pe_and (pe_call GT hr7 (by rfl) gT kT bT .nil pass0 (pa_cons (pv 1) (pa_cons (pv 5) (pa_cons (pv 6) pa_nil)))) (pe_one (pe_call GT hr7 (by rfl) gT kT bT .nil pass0 (pa_cons (pv 1) (pa_cons (pv 2) (pa_cons (pv 3) pa_nil))))))))))))))), ?_⟩
    refine ⟨_, rfl, a, ns, rfl, hS, by omega, fun H1 b g s1 nb ng hB1 => ?_⟩
    have hT1 := Tabs.ext hT s1
    have bg1 : ∃ o, H1 b = some o := by obtain ⟨_, ns, sd, n, c, e1, _, _⟩ := id hB1; exact ⟨_, e1⟩
    have gg1 : ∃ o, H1 g = some o := by obtain ⟨_, ns, sd, n, c, _, e2, _⟩ := id hB1; exact ⟨_, e2⟩
    obtain ⟨ob, hbo⟩ := bg1
    obtain ⟨og, hgo⟩ := gg1
    -- the book
    intro x dx nx ndx hne
    refine ⟨x, dx, rfl, upd_same, ?_⟩
    rintro H2 B rfl rfl bl0 hp0 hK2
    refine ⟨rfl, ?_⟩
    have s2 : Same H1 H2 := fun y o e => by
      have h1 : y ≠ B.b := ne_of_none e nx
      have h2 : y ≠ B.dx := ne_of_none e ndx
      exact bl0 y o (by simp [h1]) (by rw [upd_ne h1, upd_ne h2]; exact e)
    have ft : ∀ p ∈ B.foot, H1 p = none := by
      have fr : ∀ {p : Addr}, p ∈ [B.lk, B.lp, B.ld, B.dn] → H1 p = none := fun {p} hp => by
        have := hp0 p hp
        cases e : H1 p with
        | none => rfl
        | some o =>
          have h1 : p ≠ B.b := ne_of_none e nx
          have h2 : p ≠ B.dx := ne_of_none e ndx
          rw [upd_ne h1, upd_ne h2, e] at this
          cases this
      intro p hp
      simp only [BP.foot, List.mem_cons, List.not_mem_nil, or_false] at hp
      rcases hp with rfl | rfl | rfl | rfl | rfl
      · exact nx
      · exact fr (by simp)
      · exact fr (by simp)
      · exact fr (by simp)
      · exact fr (by simp)
    have bf : b ∉ B.foot := fun z => by rw [ft b z] at hbo; cases hbo
    have gf : g ∉ B.foot := fun z => by rw [ft g z] at hgo; cases hgo
    have hB2 := hB1.same s2
    refine ⟨by show 0 ≤ sizeLine; decide, fun l nl => ⟨_, _, rfl, ?_⟩⟩
    obtain ⟨lb, lg⟩ := hB2.neb nl
    have lf : l ∉ B.foot := fun z => by
      obtain ⟨o, ho⟩ := hK2.there l z
      rw [nl] at ho; cases ho
    have s3 := same_upd (o := .lst []) nl
    have hB3 := hB2.same s3
    have hK3 : BookAt P w (upd H2 l (.lst [])) C B [] := hK2.same s3
    have hE3 : EntsAt (upd H2 l (.lst [])) l [] := ⟨[], upd_same, .nil⟩
    have hT3 := Tabs.ext hT1 (s2.trans s3)
    have lw0 : LW [] := ⟨⟨fun i e he => (by simp at he), List.nodup_nil, fun i hi => nomatch hi⟩, fun i e he => (by simp at he)⟩
    generalize upd H2 l (.lst []) = H3 at *
    refine ⟨_, rfl, b, g, 50, rfl, hB3, by decide, by decide, fun H4 r b4 hB4 r0 r1 => ?_⟩
    have s4 : BS b g H3 H4 := .but b4
    have bgf : ∀ p ∈ B.foot, p ∉ [b, g] := fun p hp z => by
      rcases List.mem_cons.mp z with rfl | z
      · exact bf hp
      · rw [List.mem_singleton] at z; rw [z] at hp; exact gf hp
    have bgt : ∀ {G : Hp}, BagAt G b g → ∀ p ∈ [b, g], ∀ xs, G p ≠ some (.tup xs) := fun hG p hp xs e => by
      rcases List.mem_cons.mp hp with rfl | hp
      · exact (hG.notup e).1 rfl
      · rw [List.mem_singleton] at hp; rw [hp] at e; exact (hG.notup e).2 rfl
    have hK4 : BookAt P w H4 C B [] := hK3.fx (L := [b, g]) (.bs s4 (by simp) (by simp)) bgf (bgt hB3)
    have hE4 := hE3.bs hB3 s4 lb lg
    have hT4 := Tabs.bs hT3 hB3 s4
    refine ⟨_, _, rfl, rfl, _, rfl, by omega, by omega, ?_⟩
    refine for_it (walk_range (lo := 0)) (fun i σ G => ∃ x es, σ = [some (.ref a), some (.ref b), some (.ref B.b), some (.ref l), x, none, none] ∧ BagAt G b g ∧ BookAt P w G C B es ∧ EntsAt G l es ∧ LW es ∧ es.length ≤ i ∧ Tabs TT G) ⟨none, [], rfl, hB4, hK4, hE4, lw0, Nat.zero_le _, hT4⟩ (fun _ _ _ _ _ => trivial) ?_ ?_
    · rintro i y σ G G' hi ⟨x, es, rfl, hB, hK, hE, lw, hl, hT⟩ ⟨rfl, rfl⟩
      have hi60 : i < 60 := by omega
      refine ⟨_, rfl, _, rfl, _, rfl, b, g, B, l, es, rfl, hB, hK, hE, lw, by omega, hT, lb, lg, lf, bf, gf, fun H' es' _ hB' hK' hE' lw' hl' hT' => ⟨_, rfl, ?_⟩⟩
      exact iteF ⟨_, es', rfl, hB', hK', hE', lw', by omega, hT'⟩
    rintro σ G ⟨x, es, rfl, hB, hK, hE, lw, hl, hT⟩
    have hl60 : es.length ≤ 60 := by omega
    refine ⟨_, rfl, _, rfl, _, rfl, b, g, B, l, es, rfl, hB, hK, hE, lw, by omega, hT, lb, lg, lf, bf, gf, fun H5 F5 hB5 hT5 => ⟨_, rfl, iteF ?_⟩⟩
    have hK5 : BookAt P w H5 C B es := hK.fx F5 bgf (bgt hB)
    have hE5 : EntsAt H5 l es := hE.fx F5 (by simp [lb, lg]) (bgt hB)
    -- the copy
    refine ⟨_, rfl, B.b, B.dx, _, rfl, hK5.ins, rfl, B, es, rfl, hK5, fun H6 B' s6 ft' hK6' => ?_⟩
    have hK6 : BookAt P w H6 C B es := hK5.same s6
    have hE6 := hE5.same s6
    have hB6 := hB5.same s6
    have hT6 := Tabs.ext hT5 s6
    obtain ⟨qs, hl6, hq6⟩ := id hE6
    refine ⟨_, rfl, l, _, rfl, .inl (.of hl6), fun l' nl' => ⟨_, _, rfl, ?_⟩⟩
    have s7 := same_upd (o := .lst (qs.map V.ref)) nl'
    obtain ⟨lb', lg'⟩ := hB6.neb nl'
    have bn5 : ∀ {p : Addr}, (∃ o, H5 p = some o) → p ∉ B'.foot := fun {p} ⟨o, ho⟩ z => by rw [ft' p z] at ho; cases ho
    have bf' : b ∉ B'.foot := bn5 (by obtain ⟨_, ns, sd, n, c, e1, _, _⟩ := id hB5; exact ⟨_, e1⟩)
    have gf' : g ∉ B'.foot := bn5 (by obtain ⟨_, ns, sd, n, c, _, e2, _⟩ := id hB5; exact ⟨_, e2⟩)
    have lnf' : l ∉ B'.foot := bn5 (by obtain ⟨qs, h, _⟩ := id hE5; exact ⟨_, h⟩)
    have dis : ∀ p ∈ B.foot, p ∉ B'.foot := fun p hp => bn5 (hK5.there p hp)
    have lf' : l' ∉ B'.foot := fun z => by
      obtain ⟨o, ho⟩ := hK6'.there l' z
      rw [nl'] at ho; cases ho
    have lfB : l' ∉ B.foot := fun z => by
      obtain ⟨o, ho⟩ := hK6.there l' z
      rw [nl'] at ho; cases ho
    have ll' : l ≠ l' := ne_of_none hl6 nl'
    have hK7 : BookAt P w (upd H6 l' (.lst (qs.map V.ref))) C B es := hK6.same s7
    have hK7' : BookAt P w (upd H6 l' (.lst (qs.map V.ref))) C B' es := hK6'.same s7
    have hE7 := hE6.same s7
    have hE7' : EntsAt (upd H6 l' (.lst (qs.map V.ref))) l' es := ⟨qs, upd_same, Paired.mapP hq6 fun _ _ z => EntAt.keep z fun b xs e => s7 _ _ e⟩
    have hB7 := hB6.same s7
    have hT7 := Tabs.ext hT6 s7
    generalize upd H6 l' (.lst (qs.map V.ref)) = H7 at *
    have nfC : PySem.W.notFirst K C (.ref C) = true := by simp [PySem.W.notFirst]
    have tyB : ∀ {G : Hp} {B : BP} {n : Int} {es : List Ent}, BookN P w G C B n es → TyX K G (.ref B.b) (.ref C) := fun h => .base (.ins h.ins cB.cls ci.ha ci.hn ci.htk ci.hm)
    refine ⟨_, rfl, _, rfl, B'.b, B'.dx, _, .ref C, rfl, hK7'.ins, tyB hK7, nfC, B', es, .ref B.b, rfl, hK7', .inl ⟨B, es, rfl, hK7, _, rfl, _, rfl, ?_⟩⟩
    rw [decide_eq_true rfl]
    refine iteF ?_
    refine ⟨_, rfl, _, rfl, l, es, rfl, hE7, lw, by omega, fun H8 Bk s8 ftk hKk => ?_⟩
    have hK8 : BookAt P w H8 C B es := hK7.same s8
    have hK8' : BookAt P w H8 C B' es := hK7'.same s8
    have hE8 := hE7.same s8
    have hE8' := hE7'.same s8
    have hB8 := hB7.same s8
    have hT8 := Tabs.ext hT7 s8
    refine ⟨B.b, B.dx, _, .ref C, rfl, hK8.ins, tyB hKk, nfC, B, es, .ref Bk.b, rfl, hK8, .inl ⟨Bk, es, rfl, hKk, _, rfl, _, rfl, ?_⟩⟩
    rw [decide_eq_true rfl]
    refine iteF ?_
    obtain ⟨q8, hl8, _⟩ := id hE8
    refine ⟨_, rfl, _, rfl, B.b, B.dx, _, .type "list", rfl, hK8.ins, .base (.lst hl8), ce.nfl, B, es, .ref l, rfl, hK8, .inr ⟨.type "list", .base (.lst hl8), ce.kl, _, rfl, _, rfl, iteF ?_⟩⟩
    refine ⟨_, rfl, b, g, 6, rfl, hB8, by decide, by decide, fun H9 r b9 hB9 r0 r1 => ?_⟩
    have s9 : BS b g H8 H9 := .but b9
    have bgf' : ∀ p ∈ B'.foot, p ∉ [b, g] := fun p hp z => by
      rcases List.mem_cons.mp z with rfl | z
      · exact bf' hp
      · rw [List.mem_singleton] at z; rw [z] at hp; exact gf' hp
    have hK9 : BookAt P w H9 C B es := hK8.fx (L := [b, g]) (.bs s9 (by simp) (by simp)) bgf (bgt hB8)
    have hK9' : BookAt P w H9 C B' es := hK8'.fx (L := [b, g]) (.bs s9 (by simp) (by simp)) bgf' (bgt hB8)
    have hE9 := hE8.bs hB8 s9 lb lg
    have hE9' := hE8'.bs hB8 s9 lb' lg'
    have hT9 := Tabs.bs hT8 hB8 s9
    refine ⟨_, rfl, by omega, by omega, ?_⟩
    refine for_it (walk_range (lo := 0)) (fun i σ G => ∃ x es2, σ = [some (.ref a), some (.ref b), some (.ref B.b), some (.ref l), x, some (.ref B'.b), some (.ref l')] ∧ BagAt G b g ∧ BookAt P w G C B es ∧ EntsAt G l es ∧ BookAt P w G C B' es2 ∧ EntsAt G l' es2 ∧ LW es2 ∧ es2.length ≤ es.length + i ∧ Tabs TT G) ⟨_, es, rfl, hB9, hK9, hE9, hK9', hE9', lw, Nat.le_refl _, hT9⟩ (fun _ _ _ _ _ => trivial) ?_ ?_
    · rintro i y σ G G' hi ⟨x, es2, rfl, hB, hK, hE, hK', hE', lw', hl', hT⟩ ⟨rfl, rfl⟩
      have hi6 : i < 6 := by omega
      refine ⟨_, rfl, _, rfl, _, rfl, b, g, B', l', es2, rfl, hB, hK', hE', lw', by omega, hT, lb', lg', lf', bf', gf', fun Hn es3 Fn hBn hKn hEn lwn hln hTn => ⟨_, rfl, ?_⟩⟩
      have nt : ∀ p ∈ b :: g :: l' :: B'.foot, ∀ xs, G' p ≠ some (.tup xs) := by
        intro p hp xs e
        obtain ⟨qs, hlq, _⟩ := id hE'
        rcases List.mem_cons.mp hp with rfl | hp
        · exact (hB.notup e).1 rfl
        rcases List.mem_cons.mp hp with rfl | hp
        · exact (hB.notup e).2 rfl
        rcases List.mem_cons.mp hp with rfl | hp
        · rw [hlq] at e; cases e
        · exact hK'.notup p hp xs e
      have hKb : BookAt P w Hn C B es := hK.fx Fn (fun p hp z => by
        rcases List.mem_cons.mp z with rfl | z
        · exact bf hp
        rcases List.mem_cons.mp z with rfl | z
        · exact gf hp
        rcases List.mem_cons.mp z with rfl | z
        · exact lfB hp
        · exact dis p hp z) nt
      have hEb : EntsAt Hn l es := hE.fx Fn (by simp [lb, lg, ll', lnf']) nt
      exact iteF ⟨_, es3, rfl, hBn, hKb, hEb, hKn, hEn, lwn, by omega, hTn⟩
    rintro σ G ⟨x2, es2, rfl, hBz, hKz, hEz, hKz', hEz', lwz, hlz, hTz⟩
    have hl2 : es2.length ≤ 70 := by omega
    refine ⟨_, rfl, _, rfl, B'.b, B'.dx, _, .ref C, rfl, hKz'.ins, tyB hKz, nfC, B', es2, .ref B.b, rfl, hKz', .inl ⟨B, es, rfl, hKz, _, rfl, ?_⟩⟩
    refine ⟨_, rfl, _, rfl, .list (es2.map entD), .list (es.map entD), dp_list hEz', dp_list hEz, shaped_ents lwz.wf.ok, shaped_ents lw.wf.ok, ?_⟩
    have ee : PyData.eqv (.list (es2.map entD)) (.list (es.map entD)) = decide (es2 = es) := by
      rw [PyData.eqv]
      exact eqvAll_map eqv_e _ _
    rw [ee]
    refine ⟨rfl, _, rfl, ?_⟩
    have e0 : (!decide (V.bl (if false = true then !decide (es2 = es) else decide (es2 = es)) = V.bl (decide (es2 = es)))) = false := by simp
    rw [e0]
    refine iteF ?_
    refine ⟨_, rfl, _, rfl, _, rfl, b, g, B', l', es2, rfl, hBz, hKz', hEz', lwz, by omega, hTz, lb', lg', lf', bf', gf', fun Hy Fy hBy hTy => ⟨_, rfl, iteT ?_⟩⟩
    have hKy : BookAt P w Hy C B es := hKz.fx Fy bgf (bgt hBz)
    have hEy : EntsAt Hy l es := hEz.fx Fy (by simp [lb, lg]) (bgt hBz)
    exact ⟨_, rfl, _, rfl, _, rfl, b, g, B, l, es, rfl, hBy, hKy, hEy, lw, by omega, hTy, lb, lg, lf, bf, gf, fun Hx _ _ _ => q Hx⟩
end
end L2.My
end
section
set_option Elab.async false
set_option linter.all false
set_option maxRecDepth 100000
set_option maxHeartbeats 4000000
namespace L2.My
open PySem PySem.Spec PyProof.Rows
/-! The start of k01's head: __init__ of PostError does nothing. -/
abbrev sPeI : Stmt := inClass (top 2) 0
section
variable {P : Program} {w : World} {K : PySem.W.Frag} {mg : Str → Option Value} {base : Heap} {C : Addr}
theorem scPeI : FnScope ["self"] ["self"] (defScope sPeI) := ⟨rfl, rfl, rfl, by decide +kernel, rfl, by decide +kernel, by decide +kernel⟩
theorem ok_pe {f : Addr} {fd : FuncData} {k : Nat} (F : Fun K "__init__" "PostError.__init__" sPeI f fd) : FnOk P w K mg base CX0 (k + 1) f fd ["self"] spNo := by
  refine F.ok scPeI (fun vs H Q E h => ?_) (fun cdv A outer s H vs Q E hr h => ?_)
  · obtain ⟨x, rfl, _⟩ := h
    rfl
  · obtain ⟨x, rfl, q⟩ := h
    refine ⟨_, pss_one ps_pass, ?_⟩
    exact q
theorem ini0_of {f : Addr} {fd : FuncData} (F : Fun K "__init__" "PostError.__init__" sPeI f fd) (o : OexC K C) (h1 : PySem.W.findIn K (.ref C) "__init__" = some (some (.ref f))) (h2 : PySem.W.typeIn K (.ref f) = some (.type "function")) : Ini0 P w K mg base C :=
  ⟨o, f, fd, h1, h2, ok_pe F, F.binds (ps := ["self"]) fun _ _ _ _ _ _ us hl => match us, hl with | [_], _ => rfl⟩
end
end L2.My
end
section
set_option Elab.async false
set_option linter.all false
set_option maxRecDepth 100000
set_option maxHeartbeats 4000000
/-! A Hook of facts by names, of defs, and of one more Bool. -/
namespace L2.My
open PySem PySem.Spec PyProof.Rows He
abbrev AlY : Type := Al × Bool
def obsY (fa : List Fa) (fn : List FnD) (ex : PySem.W.Frag → Bool) (K : PySem.W.Frag) : AlY := (obsE fa fn K, ex K && fn.all fun d => PySem.W.keepIn K (.ref (fAd K d.at_)))
def valY (fn : List FnD) : AlY := (valE fn, true)
def obsYG (n : Nat) (fa : List Fa) (fn : List FnD) (ex : PySem.W.Frag → Bool) (g : Addr → Option Obj) : AlY := obsY fa fn ex (frG g (asD g n))
structure SaysY (fa : List Fa) (fn : List FnD) (ex : PySem.W.Frag → Bool) (K : PySem.W.Frag) : Prop where
  e : SaysE fa fn K
  more : ex K = true
  kp : ∀ d ∈ fn, PySem.W.keepIn K (.ref (fAd K d.at_)) = true
theorem saysY_of {fa : List Fa} {fn : List FnD} {ex : PySem.W.Frag → Bool} {K : PySem.W.Frag} (e : obsY fa fn ex K = valY fn) : SaysY fa fn ex K := by
  have e1 : obsE fa fn K = valE fn := congrArg (fun z : AlY => z.1) e
  have e2 : (ex K && fn.all fun d => PySem.W.keepIn K (.ref (fAd K d.at_))) = true := congrArg (fun z : AlY => z.2) e
  obtain ⟨h1, h2⟩ := ba e2
  exact ⟨e1, h1, fun d hd => List.all_eq_true.mp h2 d hd⟩
def hookY (n : Nat) (fa : List Fa) (fn : List FnD) (ex : PySem.W.Frag → Bool) : PySem.W.Hook where
  α := AlY
  obs := fun s => obsYG n fa fn ex s.heap.get?
  val := fun _ => valY fn
  says := fun _ h => ∃ K : PySem.W.Frag, K.In h ∧ SaysY fa fn ex K
  of := fun _ _ e => ⟨_, frG_in, saysY_of e⟩
  keeps := fun _ _ _ ⟨K, hK, c⟩ k => ⟨K, PySem.W.Frag.In.keeps hK k, c⟩
theorem obsYG_eq {n : Nat} {fa : List Fa} {fn : List FnD} {ex : PySem.W.Frag → Bool} {g : Addr → Option Obj} {s : Shared} (h : ∀ a, g a = s.heap.get? a) : obsYG n fa fn ex g = (hookY n fa fn ex).obs s := by
  have e : g = s.heap.get? := funext h
  rw [e] <;> rfl
section
variable {fa : List Fa} {fn : List FnD} {ex : PySem.W.Frag → Bool} {K : PySem.W.Frag}
theorem SaysY.fact (c : SaysY fa fn ex K) {f : Fa} (h : f ∈ fa) : f.ok K = true := by
  obtain ⟨i, hi, e⟩ := List.mem_iff_getElem.mp h
  exact c.e.fact i (f := f) (by rw [List.getElem?_eq_getElem hi, e])
/-- a def of the text, by its place in the list -/
theorem SaysY.fun_ (c : SaysY fa fn ex K) {d : FnD} {st : Stmt} (h : d ∈ fn) (hp : d.params = defArgs st) (hb : d.body = defBody st) (hs : d.scope = defScope st) : ∃ fd, Fun K d.name d.qual st (fAd K d.at_) fd := by
  obtain ⟨i, hi, e⟩ := List.mem_iff_getElem.mp h
  obtain ⟨oc, od, osl, kV, doc, pm, an, cdv, ct, lk, hc⟩ := c.e.def_ i (d := d) (by rw [List.getElem?_eq_getElem hi, e])
  rw [hp, hb, hs] at lk
  exact ⟨_, fun_mk lk hc (c.kp d h)⟩
end
/-! ### an own exception class, decided -/
def exB (K : PySem.W.Frag) (C : Addr) : Bool := match K.lookup C with
  | some ⟨.type "type", _, .cls cd, sl⟩ => (match cd.mro, sl.toList with
    | .ref C' :: bm, [_, _, _, _, some (.builtin n), _] => C' == C && n == "ValueError.__new__" && !cd.hasDel && PySem.HandSPX.refsVE bm && cd.hasDict
    | _, _ => false)
  | _ => false
theorem exB_ok {K : PySem.W.Frag} {C : Addr} (q : exB K C = true) : ∃ nm q N bs bm sn sub ab col dd k0 k1 k2 k3 k5, K.lookup C = some (excClassObj nm q C N bs bm true sn sub ab col dd k0 k1 k2 k3 k5 "ValueError.__new__") ∧ PySem.HandSPX.refsVE bm = true := by
  unfold exB at q
  split at q
  · rename_i dd cd sl ho
    split at q
    · rename_i C' bm k0 k1 k2 k3 n k5 hm hs
      simp only [Bool.and_eq_true, beq_iff_eq, Bool.not_eq_true'] at q
      obtain ⟨⟨⟨⟨rfl, rfl⟩, hdel⟩, hr⟩, hd⟩ := q
      obtain ⟨nm, bs, mro, ns, qn, hdct, sn, sub, ab, col, del⟩ := cd
      dsimp only at hm hdel hd
      subst hm hdel hd
      have hsl : sl = #[k0, k1, k2, k3, some (.builtin "ValueError.__new__"), k5] := by
        obtain ⟨l⟩ := sl
        simp only at hs
        rw [hs]
      subst hsl
      exact ⟨nm, qn, ns, bs, bm, sn, sub, ab, col, dd, k0, k1, k2, k3, k5, ho, hr⟩
    · cases q
  · cases q
def eqV (a b : Option Value) : Bool := decide (a = b)
theorem eqV_ok {a b : Option Value} (h : eqV a b = true) : a = b := of_decide_eq_true h
def eqB (a b : Option Bool) : Bool := decide (a = b)
theorem eqB_ok {a b : Option Bool} (h : eqB a b = true) : a = b := of_decide_eq_true h
def xcB (K : PySem.W.Frag) (C : Addr) : Bool := exB K C && (eqO (PySem.W.findIn K (.ref C) "__setattr__") (some (some (.builtin "object.__setattr__"))) && (eqB (PySem.W.subIn K (.ref C) (.type "BaseException")) (some true) && (eqV (PySem.W.typeIn K (.ref C)) (some (.type "type")) && (PySem.W.keepIn K (.ref C) &&
  (eqO (PySem.W.findIn K (.ref C) "__getattribute__") (some (some (.builtin "BaseException.__getattribute__"))) && (eqO (PySem.W.findIn K (.ref C) "__getattr__") (some none) && (eqO (PySem.W.findIn K (.ref C) "__class__") (some (some (.builtin "object.__class__"))) &&
  (eqO (PySem.W.specialIn K (.builtin "object.__class__") "__get__") (some (some (.builtin "getset_descriptor.__get__"))) && (eqB (PySem.W.takesIn K (.builtin "object.__class__")) (some true) && (eqB (PySem.W.mroIn K C (.type "object")) (some true) && PySem.W.hasDictIn K C))))))))))
theorem xcB_ok {K : PySem.W.Frag} {C : Addr} (q : xcB K C = true) : XC K C := by
  obtain ⟨h1, q⟩ := ba q
  obtain ⟨h2, q⟩ := ba q
  obtain ⟨h3, q⟩ := ba q
  obtain ⟨h4, q⟩ := ba q
  obtain ⟨h5, q⟩ := ba q
  obtain ⟨h6, q⟩ := ba q
  obtain ⟨h7, q⟩ := ba q
  obtain ⟨h8, q⟩ := ba q
  obtain ⟨h9, q⟩ := ba q
  obtain ⟨h10, q⟩ := ba q
  obtain ⟨h11, h12⟩ := ba q
  exact ⟨⟨exB_ok h1, eqO_ok h2, eqB_ok h3, eqV_ok h4, h5⟩, eqO_ok h6, eqO_ok h7, eqO_ok h8, eqO_ok h9, eqB_ok h10, eqB_ok h11, h12⟩
end L2.My
end
section
set_option Elab.async false
set_option linter.all false
set_option maxRecDepth 100000
set_option maxHeartbeats 4000000
namespace L2.My
open PySem PySem.Spec PyProof.Rows He
/-! The facts of k01's head: what is looked at. -/
theorem fun_of {K : PySem.W.Frag} {x q : Str} {st : Stmt} {f : Addr} {fd : FuncData} (F : FunD K x q (defArgs st) (defBody st) (defScope st) [] [] f fd) : Fun K x q st f fd := by
  obtain ⟨oc, od, dV, kV, doc, pm, an, cdv, ct, osl, e, l, c, d, _⟩ := F.ex
  rcases d with ⟨_, rfl⟩ | ⟨h, _⟩
  · exact ⟨⟨oc, od, kV, doc, pm, an, cdv, ct, osl, e, l, c⟩, F.kp⟩
  · exact absurd rfl h
def eD (x : Str) (st : Stmt) : DefD := { at_ := (x, none), name := x, qual := x, params := defArgs st, body := defBody st, scope := defScope st }
def eM (C m q : Str) (st : Stmt) : DefD := { at_ := (C, some m), name := m, qual := q, params := defArgs st, body := defBody st, scope := defScope st }
def fnK : List DefD := [eD "is_below" sBelow, eD "is_sign" sSign, eD "is_name_text" sNameT, eD "_law_bag" sBag, eD "_law_pick" sPick, eD "_law_some" sSome, eD "_law_entry" sEnt, eD "_law_any" sAny, eD "_law_old" sOld, eD "_law_book" sBook,
  eD "_law_inner" sInn, eD "_law_within" sWit, eD "_law_is_number" sIsN, eD "_law_word" sWord, eD "_law_due" sDue, eD "_law_deep" sDeep, eD "_law_bent" sBent, eD "_law_put_right" sPutR, eD "_law_depths" sDeps, eD "_law_told_right" sTold, eD "law" sLaw,
  eM "PostError" "__init__" "PostError.__init__" sPeI, eM "Book" "__init__" "Book.__init__" (mth 0), eM "Book" "__eq__" "Book.__eq__" (mth 1), eM "Book" "put" "Book.put" (mth 2), eM "Book" "fresh" "Book.fresh" (mth 3), eM "Book" "size" "Book.size" (mth 4), 
  eM "Book" "number_of" "Book.number_of" (mth 6), eM "Book" "kind" "Book.kind" (mth 7), eM "Book" "parts" "Book.parts" (mth 8), eM "Book" "depth" "Book.depth" (mth 9), eM "Book" "within" "Book.within" (mth 10), eM "Book" "copy" "Book.copy" (mth 11),
  eM "Book" "_check" "Book._check" (mth 12), eM "Book" "_are_terms" "Book._are_terms" (mth 13), eM "Book" "_fits" "Book._fits" (mth 14), eM "Book" "_put_new" "Book._put_new" (mth 15), eM "Book" "_inner" "Book._inner" (mth 16)]
def gloK : List Str := ["is_below", "is_sign", "is_name_text", "_law_bag", "_law_pick", "_law_some", "_law_entry", "_law_any", "_law_old", "_law_book", "_law_inner", "_law_within", "_law_is_number", "_law_word", "_law_due", "_law_deep", "_law_bent", "_law_put_right", "_law_depths", "_law_told_right", "law",
  "PostError", "NoKind", "NoParts", "NoTerm", "NoTerms", "Book", "COUNTS", "LEAVES", "PUT_KINDS"]
def freeK : List Str := ["isinstance", "int", "bool", "str", "len", "all", "tuple", "list", "max", "sorted", "abs", "range", "min", "ValueError", "type", "set", "dict", "any", "object", "enumerate"]
def metK : List Str := ["put", "fresh", "size", "number_of", "kind", "parts", "depth", "within", "copy", "_check", "_are_terms", "_fits", "_put_new", "_inner"]
def faK : List Fa := gloK.map .glo ++ (freeK.map .free ++ ([.int "MOST_SIGNS" 40, .int "MOST_ITEMS" 400, .int "NUMBER_BOUND" 1000000000000, .cls "Book", .mkr "Book"] ++ ((["_kinds", "_parts", "_depths", "_numbers", "_fresh_count"] : List Str).map (.noat "Book") ++ metK.map (.meth "Book"))))
def errK : List Str := ["NoKind", "NoParts", "NoTerm", "NoTerms"]
def exK1 (K : PySem.W.Frag) : Bool := (decide ((cT K ("_law_put_right", none)).2 ≠ (cT K ("_law_told_right", none)).2)) && (errK.all fun x => xcB K (ga K x) && (eqB (PySem.W.exmOne K (.ref (ga K x)) (.ref (ga K "PostError"))) (some true) && (eqB (PySem.W.kitOne K (.ref (ga K x)) (.type "ValueError")) (some true) &&
    ((errK.all fun y => eqB (PySem.W.kitOne K (.ref (ga K x)) (.ref (ga K y))) (some (decide (x = y)))) && eqO (PySem.W.findIn K (.ref (ga K x)) "__init__") (some (some (.ref (ma K (ga K "PostError") "__init__")))))))) &&
  (eqV (PySem.W.typeIn K (.ref (ma K (ga K "PostError") "__init__"))) (some (.type "function")) && (decide ((errK.map (ga K)).Nodup) &&
  (eqO (PySem.W.findIn K (.ref (ga K "Book")) "__class__") (some (some (.builtin "object.__class__"))) && (eqO (PySem.W.specialIn K (.builtin "object.__class__") "__get__") (some (some (.builtin "getset_descriptor.__get__"))) &&
  (eqB (PySem.W.takesIn K (.builtin "object.__class__")) (some true) && (eqB (PySem.W.mroIn K (ga K "Book") (.type "object")) (some true) && (eqB (PySem.W.kitOne K (.ref (ga K "Book")) (.ref (ga K "Book"))) (some true) &&
  (eqO (PySem.W.findIn K (.ref (ga K "Book")) "__eq__") (some (some (.ref (ma K (ga K "Book") "__eq__")))) && (PySem.W.isFn K (.ref (ma K (ga K "Book") "__eq__")) && (eqO (PySem.W.findIn K (.ref (ga K "Book")) "__ne__") (some (some (.builtin "object.__ne__"))) &&
  (PySem.W.notFirst K (ga K "Book") (.type "list") && (eqB (PySem.W.kitOne K (.type "list") (.ref (ga K "Book"))) (some false) &&
  (tupB K "LEAVES" [.str "name", .str "number", .str "fresh"] && (tupB K "PUT_KINDS" (putK9.map .str) && valsB K (ga K "COUNTS") (sizesK.map fun p => (p.1, .int (p.2 : Nat)))))))))))))))))
def tsK : List Tab := [((fun K => ga K "COUNTS"), ["made", "lock", "box", "chest", "mark", "print"])]
def tfK : List Defn := [("_law_put_right", none), ("_law_told_right", none)]
abbrev tfK0 : List Defn := tfK
abbrev RK : PySem.W.OpenRow := PySem.W.OpenLaw.row PySem.Challenge.rw_strangerspost_k01_books_by_own_account
abbrev hkK : PySem.W.Hook := hookX 6 faK fnK tsK tfK exK1
def obK (s : PySem.W.SharedT) : AlX := obsX 6 faK fnK tsK tfK exK1 (HandSHeadRun.getT s)
theorem obK_eq (s : PySem.W.SharedT) : obK s = hkK.obs s.abs := obsX_eq (HandSHeadRun.getT_eq s)
end L2.My
end
section
set_option Elab.async false
set_option linter.all false
set_option maxRecDepth 100000
set_option maxHeartbeats 0
namespace L2.My
open PySem PySem.Spec PyProof.Rows He
abbrev looA : List PySem.Str := ["_wall", "PostError", "NoKind", "NoParts", "NoTerm", "NoTerms", "MOST_SIGNS", "MOST_ITEMS", "NUMBER_BOUND", "COUNTS", "LEAVES", "PUT_KINDS", "is_below", "is_sign", "is_name_text", "Book"]
abbrev looB : List PySem.Str := ["_law_bag", "_law_pick", "_law_some", "_law_entries", "_law_entry", "_law_any", "_law_old", "_law_book", "_law_inner", "_law_within", "_law_is_number", "_law_word", "_law_due", "_law_deep", "_law_bent", "_law_put_right", "_law_depths", "_law_told_right"]
theorem lawAt : RK.prog.main.body.length = 38 := by kernel_rfl
theorem law37 : (HandSHeadRun.topDef RK.prog 37).name = ("law" : PySem.Str) := by kernel_rfl
theorem v1 (w : World) (os : OsState) : ((HandSHeadRun.endF (HandSHeadRun.stepQ (HandSHeadRun.denQ HandSHeadRun.tabQ) RK.prog (w.withFollow "special-get-raises" false)) 12000 RK.prog (w.withFollow "special-get-raises" false) os).map fun s => true) = some true := by kernel_rfl
theorem v2 (w : World) (os : OsState) : ((HandSHeadRun.endF (HandSHeadRun.stepQ (HandSHeadRun.denQ HandSHeadRun.tabQ) RK.prog (w.withFollow "special-get-raises" true)) 12000 RK.prog (w.withFollow "special-get-raises" true) os).map fun s => true) = some true := by kernel_rfl
theorem run_f (w : World) : HandSHeadRun.RunEq RK (PySem.W.view RK.prog [37]) hkK obK 12000 (looA ++ looB) (w.withFollow "special-get-raises" false) := by
  intro os
  kernel_rfl
theorem run_t (w : World) : HandSHeadRun.RunEq RK (PySem.W.view RK.prog [37]) hkK obK 12000 (looA ++ looB) (w.withFollow "special-get-raises" true) := by
  intro os
  kernel_rfl
theorem run (w : World) : HandSHeadRun.RunEq RK (PySem.W.view RK.prog [37]) hkK obK 12000 (looA ++ looB) w := PySem.W.byRow2 "special-get-raises" run_f run_t w
end L2.My
end
section
set_option Elab.async false
set_option linter.all false
set_option maxRecDepth 100000
set_option maxHeartbeats 4000000
namespace L2.My
open PySem PySem.Spec PyProof.Rows He LamX
section
variable {w : World} {K : PySem.W.Frag} {mg : Str → Option Value} {h0 : Heap}
abbrev SX (w : World) (h : Heap) (K : PySem.W.Frag) : Prop := SaysX faK fnK tsK tfK exK1 w h K
theorem defAt (c : SX w h0 K) (i : Nat) {x : Str} {st : Stmt} (h : fnK[i]? = some (eD x st) := by rfl) : ∃ fd, Fun K x x st (ga K x) fd := by
  obtain ⟨fd, F⟩ := c.t.d.def_ i (d := eD x st) h
  exact ⟨fd, fun_of F⟩
theorem mthAt (c : SX w h0 K) (i : Nat) {C m q : Str} {st : Stmt} (h : fnK[i]? = some (eM C m q st) := by rfl) : ∃ fd, Fun K m q st (ma K (ga K C) m) fd := by
  obtain ⟨fd, F⟩ := c.t.d.def_ i (d := eM C m q st) h
  exact ⟨fd, fun_of F⟩
theorem fact (c : SX w h0 K) (i : Nat) {f : Fa} (h : faK[i]? = some f := by rfl) : f.ok K = true := c.t.d.fact i h
theorem factM (c : SX w h0 K) {f : Fa} (h : f ∈ faK) : f.ok K = true := c.t.d.facts h
theorem gloM (X : K.In h0) (G : h0.Ns mainGlobals mg) (c : SX w h0 K) {x : Str} (h : x ∈ gloK := by decide +kernel) : mg x = some (.ref (ga K x)) := glo_ok X G (factM c (List.mem_append_left _ (List.mem_map_of_mem h)))
theorem freeM (X : K.In h0) (G : h0.Ns mainGlobals mg) (c : SX w h0 K) {x : Str} (h : x ∈ freeK := by decide +kernel) : mg x = none := free_ok X G (factM c (List.mem_append_right _ (List.mem_append_left _ (List.mem_map_of_mem h))))
theorem restM (c : SX w h0 K) {f : Fa} (h : f ∈ [Fa.int "MOST_SIGNS" 40, .int "MOST_ITEMS" 400, .int "NUMBER_BOUND" 1000000000000, .cls "Book", .mkr "Book"]) : f.ok K = true := factM c (List.mem_append_right _ (List.mem_append_right _ (List.mem_append_left _ h)))
theorem noatM (c : SX w h0 K) {f : Str} (h : f ∈ (["_kinds", "_parts", "_depths", "_numbers", "_fresh_count"] : List Str)) : NoAttr K (ga K "Book") f := noat_ok (factM c (List.mem_append_right _ (List.mem_append_right _ (List.mem_append_right _ (List.mem_append_left _ (List.mem_map_of_mem h))))))
theorem methM (c : SX w h0 K) {m : Str} (h : m ∈ metK := by decide +kernel) : Meth K (ga K "Book") m (ma K (ga K "Book") m) := meth_ok (factM c (List.mem_append_right _ (List.mem_append_right _ (List.mem_append_right _ (List.mem_append_right _ (List.mem_map_of_mem h))))))
theorem bind1 {K : PySem.W.Frag} {x q : Str} {st : Stmt} {f : Addr} {fd : FuncData} {a : Str} (F : Fun K x q st f fd) (h : ∀ (kV doc pm : Value) (an : Option Addr) (cdv ct : Value) (u : Value), bindArgs (PySem.W.fnOf x q (defArgs st) (defBody st) (defScope st) .none kV doc pm an cdv ct) ⟨[u], []⟩ = pure ([a].zip [u])) : Binds K fd [a] [] := F.binds (ps := [a]) fun k d p a c t us hl => match us, hl with | [u], _ => h k d p a c t u
theorem code_of {p : Str} {st : Stmt} {fd : FuncData} (F : Fun K p p st (ga K p) fd) : fd.code = .ref (cT K (p, none)).1 := by
  obtain ⟨oc, od, kV, doc, pm, an, cdv, ct, osl, e, l, cc⟩ := F.ex
  obtain ⟨q, rfl⟩ := codeIn_ref cc
  have e1 : fd.code = .ref q := by rw [e] <;> rfl
  have e2 : codeOf K (p, none) = q := codeOf_eq (p := (p, none)) l e1
  rw [e1]
  show Value.ref q = .ref (codeOf K (p, none))
  rw [e2]
end
end L2.My
end
section
set_option Elab.async false
set_option linter.all false
set_option maxRecDepth 100000
set_option maxHeartbeats 4000000
namespace L2.My
open PySem PySem.Spec PyProof.Rows He LamX
section
variable {w : World} {K : PySem.W.Frag} {mg : Str → Option Value} {h0 : Heap}
structure MoreK (K : PySem.W.Frag) : Prop where
  tt : (cT K ("_law_put_right", none)).2 ≠ (cT K ("_law_told_right", none)).2
  er : ∀ x ∈ errK, XC K (ga K x) ∧ PySem.W.exmOne K (.ref (ga K x)) (.ref (ga K "PostError")) = some true ∧ PySem.W.kitOne K (.ref (ga K x)) (.type "ValueError") = some true ∧ (∀ y ∈ errK, PySem.W.kitOne K (.ref (ga K x)) (.ref (ga K y)) = some (decide (x = y))) ∧ PySem.W.findIn K (.ref (ga K x)) "__init__" = some (some (.ref (ma K (ga K "PostError") "__init__")))
  pf : PySem.W.typeIn K (.ref (ma K (ga K "PostError") "__init__")) = some (.type "function")
  nd : (errK.map (ga K)).Nodup
  bi : BkI K (ga K "Book")
  be : BkE K (ga K "Book") (ma K (ga K "Book") "__eq__")
  lv : ∀ H, SqT K H (ga K "LEAVES") [.str "name", .str "number", .str "fresh"]
  pk : ∀ H, SqT K H (ga K "PUT_KINDS") (putK9.map .str)
  cv : valsB K (ga K "COUNTS") (sizesK.map fun p => (p.1, .int (p.2 : Nat))) = true
theorem moreK (c : SX w h0 K) : MoreK K := by
  have m := c.more
  unfold exK1 at m
  obtain ⟨m1, m⟩ := ba m
  obtain ⟨m0, m1⟩ := ba m1
  obtain ⟨m2, m⟩ := ba m
  obtain ⟨m3, m⟩ := ba m
  obtain ⟨m4, m⟩ := ba m
  obtain ⟨m5, m⟩ := ba m
  obtain ⟨m6, m⟩ := ba m
  obtain ⟨m7, m⟩ := ba m
  obtain ⟨m8, m⟩ := ba m
  obtain ⟨m9, m⟩ := ba m
  obtain ⟨m10, m⟩ := ba m
  obtain ⟨m11, m⟩ := ba m
  obtain ⟨m12, m⟩ := ba m
  obtain ⟨m13, m⟩ := ba m
  obtain ⟨m14, m⟩ := ba m
  obtain ⟨m15, m16⟩ := ba m
  refine ⟨of_decide_eq_true m0, fun x hx => ?_, eqV_ok m2, of_decide_eq_true m3, ⟨eqO_ok m4, eqO_ok m5, eqB_ok m6, eqB_ok m7, eqB_ok m8⟩, ⟨eqO_ok m9, m10, eqO_ok m11, eqB_ok m7, m12, eqB_ok m13⟩, fun H => ?_, fun H => ?_, m16⟩
  · obtain ⟨a1, a⟩ := ba (List.all_eq_true.mp m1 x hx)
    obtain ⟨a2, a⟩ := ba a
    obtain ⟨a3, a⟩ := ba a
    obtain ⟨a4, a5⟩ := ba a
    exact ⟨xcB_ok a1, eqB_ok a2, eqB_ok a3, fun y hy => eqB_ok (List.all_eq_true.mp a4 y hy), eqO_ok a5⟩
  · exact tupB_ok m14 H
  · have q := tupB_ok m15 H
    have e : (putK9.map Dv.str).map (Dv.v K) = putK9.map V.str := by rw [List.map_map]; rfl
    rw [e] at q
    exact q
end
end L2.My
end
section
set_option Elab.async false
set_option linter.all false
set_option maxRecDepth 100000
set_option maxHeartbeats 4000000
namespace L2.My
open PySem PySem.Spec PyProof.Rows He LamX
section
variable {P : Program} {w : World} {K : PySem.W.Frag} {mg : Str → Option Value} {h0 base : Heap}
theorem conC (X : K.In h0) (G : h0.Ns mainGlobals mg) (c : SX w h0 K) (m : MoreK K) : Nonempty (ConC K w mg) := by
  obtain ⟨es, n, D⟩ := c.t.tab 0 (t := ((fun K => ga K "COUNTS"), ["made", "lock", "box", "chest", "mark", "print"])) rfl
  refine ⟨⟨ga K "COUNTS", gloM X G c, fun p hp => ?_, int_ok X G (restM c (List.mem_of_getElem? (i := 1) rfl)), int_ok X G (restM c (List.mem_of_getElem? (i := 2) rfl))⟩⟩
  obtain ⟨u, e, r⟩ := valsB_ok m.cv (List.mem_map_of_mem (f := fun p : Str × Nat => (p.1, Dv.int (p.2 : Nat))) hp)
  exact ⟨es, n, u, D.at_, D.lit, e, r⟩
theorem plTxt (X : K.In h0) (G : h0.Ns mainGlobals mg) (c : SX w h0 K) : PlTxt mg :=
  ⟨freeM X G c, freeM X G c, freeM X G c, freeM X G c, freeM X G c, freeM X G c, freeM X G c, freeM X G c, freeM X G c, freeM X G c, int_ok X G (restM c (List.mem_of_getElem? (i := 0) rfl))⟩
theorem noTxt (X : K.In h0) (G : h0.Ns mainGlobals mg) (c : SX w h0 K) (m : MoreK K) : NoTxt P w K mg base (ga K "NoKind") (ga K "NoParts") (ga K "NoTerm") (ga K "NoTerms") := by
  obtain ⟨fd, F⟩ := mthAt c 21 (C := "PostError") (m := "__init__") (q := "PostError.__init__") (st := sPeI)
  exact ⟨gloM X G c, gloM X G c, gloM X G c, gloM X G c, ini0_of F (m.er _ (by decide +kernel)).1.o (m.er _ (by decide +kernel)).2.2.2.2 m.pf, ini0_of F (m.er _ (by decide +kernel)).1.o (m.er _ (by decide +kernel)).2.2.2.2 m.pf,
    ini0_of F (m.er _ (by decide +kernel)).1.o (m.er _ (by decide +kernel)).2.2.2.2 m.pf, ini0_of F (m.er _ (by decide +kernel)).1.o (m.er _ (by decide +kernel)).2.2.2.2 m.pf⟩
theorem wordTxt (X : K.In h0) (G : h0.Ns mainGlobals mg) (c : SX w h0 K) (m : MoreK K) : WordTxt K mg (ga K "PostError") (ga K "NoKind") (ga K "NoParts") (ga K "NoTerm") (ga K "NoTerms") := by
  have key : ∀ {Q : Addr → Prop}, (∀ x ∈ errK, Q (ga K x)) → ∀ C ∈ [ga K "NoKind", ga K "NoParts", ga K "NoTerm", ga K "NoTerms"], Q C := fun h C hC => by
    obtain ⟨x, hx, rfl⟩ := List.mem_map.mp (show C ∈ errK.map (ga K) from hC)
    exact h x hx
  refine ⟨freeM X G c, freeM X G c, gloM X G c, gloM X G c, gloM X G c, gloM X G c, gloM X G c, key fun x hx => (m.er x hx).1, m.nd, key fun x hx => key fun y hy => ?_, key fun x hx => (m.er x hx).2.2.1, key fun x hx => (m.er x hx).2.1⟩
  rw [(m.er x hx).2.2.2.1 y hy]
  have : decide (x = y) = decide (ga K x = ga K y) := by
    apply decide_eq_decide.mpr
    constructor
    · rintro rfl; rfl
    · intro e
      have nd := m.nd
      have inj : ∀ a ∈ errK, ∀ b ∈ errK, ga K a = ga K b → a = b := by
        have h2 := nd
        simp only [errK, List.map_cons, List.map_nil, List.nodup_cons, List.mem_cons, List.not_mem_nil, or_false, not_or] at h2
        intro a ha b hb e
        simp only [errK, List.mem_cons, List.not_mem_nil, or_false] at ha hb
        rcases ha with rfl | rfl | rfl | rfl <;> rcases hb with rfl | rfl | rfl | rfl <;> first | rfl | (exfalso; simp_all)
      exact inj x hx y hy e
  rw [this]
theorem bkC (c : SX w h0 K) : BkC K (ga K "Book") := ⟨cls_ok (restM c (List.mem_of_getElem? (i := 3) rfl)), fun f hf => noatM c hf⟩
end
end L2.My
end
section
set_option Elab.async false
set_option linter.all false
set_option maxRecDepth 100000
set_option maxHeartbeats 4000000
namespace L2.My
open PySem PySem.Spec PyProof.Rows He LamX
section
variable {P : Program} {w : World} {K : PySem.W.Frag} {mg : Str → Option Value} {h0 : Heap}
abbrev csK (K : PySem.W.Frag) : List (Addr × Addr) := [cT K ("_law_put_right", none), cT K ("_law_told_right", none)]
abbrev ttK (K : PySem.W.Frag) : List (Addr × Str) := [((cT K ("_law_put_right", none)).2, lamQ "_law_put_right"), ((cT K ("_law_told_right", none)).2, lamQ "_law_told_right")]
theorem facts {f : Addr} (X : K.In h0) (G : h0.Ns mainGlobals mg) (hfa : mg ("law" : Str) = some (.ref f)) (c : SX w h0 K) :
    ∃ fd : FuncData, (∀ (s : Shared) (v : Value), BindsTo s fd ⟨[v], []⟩ [("script", v)]) ∧ ∀ base : Heap, K.In base → base.Ns mainGlobals mg → (∀ p ∈ csK K, TabB base mg p.1 p.2) → FnOk P w K mg base CX0 9 f fd ["script"] (spLaw K (ttK K)) := by
  have m := moreK c
  have e := hfa.symm.trans (gloM X G c (x := "law"))
  cases e
  obtain ⟨fdLaw, FLaw⟩ := defAt c 20 (x := "law") (st := sLaw)
  refine ⟨fdLaw, fun s v => ?_, fun base _ _ hTB => ?_⟩
  · obtain ⟨oc, od, kV, doc, pm, an, cdv, ct, osl, rfl, lk, hcd⟩ := FLaw.ex
    exact .of_eq rfl
  have T := plTxt X G c
  have cB := bkC c
  have N := noTxt (P := P) (base := base) X G c m
  obtain ⟨CC⟩ := conC X G c m
  have gB : mg "Book" = some (.ref (ga K "Book")) := gloM X G c
  have gBel : mg "is_below" = some (.ref (ga K "is_below")) := gloM X G c
  have gSgn : mg "is_sign" = some (.ref (ga K "is_sign")) := gloM X G c
  have LV : LeavC K mg := ⟨ga K "LEAVES", gloM X G c, m.lv⟩
  have PC : PutC K mg := ⟨ga K "PUT_KINDS", gloM X G c, m.pk⟩
  have MK : Mk K (ga K "Book") (ma K (ga K "Book") "__init__") := mkr_ok (restM c (List.mem_of_getElem? (i := 4) rfl))
  have BT : BagTxt mg := ⟨freeM X G c, freeM X G c, freeM X G c⟩
  obtain ⟨fdBel, FBel⟩ := defAt c 0 (x := "is_below") (st := sBelow)
  obtain ⟨fdSgn, FSgn⟩ := defAt c 1 (x := "is_sign") (st := sSign)
  obtain ⟨fdNam, FNam⟩ := defAt c 2 (x := "is_name_text") (st := sNameT)
  obtain ⟨fdBag, FBag⟩ := defAt c 3 (x := "_law_bag") (st := sBag)
  obtain ⟨fdPick, FPick⟩ := defAt c 4 (x := "_law_pick") (st := sPick)
  obtain ⟨fdSome, FSome⟩ := defAt c 5 (x := "_law_some") (st := sSome)
  obtain ⟨fdEnt, FEnt⟩ := defAt c 6 (x := "_law_entry") (st := sEnt)
  obtain ⟨fdAny, FAny⟩ := defAt c 7 (x := "_law_any") (st := sAny)
  obtain ⟨fdOld, FOld⟩ := defAt c 8 (x := "_law_old") (st := sOld)
  obtain ⟨fdBook, FBook⟩ := defAt c 9 (x := "_law_book") (st := sBook)
  obtain ⟨fdInn, FInn⟩ := defAt c 10 (x := "_law_inner") (st := sInn)
  obtain ⟨fdWit, FWit⟩ := defAt c 11 (x := "_law_within") (st := sWit)
  obtain ⟨fdIsN, FIsN⟩ := defAt c 12 (x := "_law_is_number") (st := sIsN)
  obtain ⟨fdWord, FWord⟩ := defAt c 13 (x := "_law_word") (st := sWord)
  obtain ⟨fdDue, FDue⟩ := defAt c 14 (x := "_law_due") (st := sDue)
  obtain ⟨fdDeep, FDeep⟩ := defAt c 15 (x := "_law_deep") (st := sDeep)
  obtain ⟨fdBent, FBent⟩ := defAt c 16 (x := "_law_bent") (st := sBent)
  obtain ⟨fdPutR, FPutR⟩ := defAt c 17 (x := "_law_put_right") (st := sPutR)
  obtain ⟨fdDeps, FDeps⟩ := defAt c 18 (x := "_law_depths") (st := sDeps)
  obtain ⟨fdTold, FTold⟩ := defAt c 19 (x := "_law_told_right") (st := sTold)
  obtain ⟨fdIni, FIni⟩ := mthAt c 22 (C := "Book") (m := "__init__") (q := "Book.__init__") (st := mth 0)
  obtain ⟨fdEq, FEq⟩ := mthAt c 23 (C := "Book") (m := "__eq__") (q := "Book.__eq__") (st := mth 1)
  obtain ⟨fdPut, FPut⟩ := mthAt c 24 (C := "Book") (m := "put") (q := "Book.put") (st := mth 2)
  obtain ⟨fdFr, FFr⟩ := mthAt c 25 (C := "Book") (m := "fresh") (q := "Book.fresh") (st := mth 3)
  obtain ⟨fdSz, FSz⟩ := mthAt c 26 (C := "Book") (m := "size") (q := "Book.size") (st := mth 4)
  obtain ⟨fdNo, FNo⟩ := mthAt c 27 (C := "Book") (m := "number_of") (q := "Book.number_of") (st := mth 6)
  obtain ⟨fdKi, FKi⟩ := mthAt c 28 (C := "Book") (m := "kind") (q := "Book.kind") (st := mth 7)
  obtain ⟨fdPa, FPa⟩ := mthAt c 29 (C := "Book") (m := "parts") (q := "Book.parts") (st := mth 8)
  obtain ⟨fdDe, FDe⟩ := mthAt c 30 (C := "Book") (m := "depth") (q := "Book.depth") (st := mth 9)
  obtain ⟨fdWi, FWi⟩ := mthAt c 31 (C := "Book") (m := "within") (q := "Book.within") (st := mth 10)
  obtain ⟨fdCo, FCo⟩ := mthAt c 32 (C := "Book") (m := "copy") (q := "Book.copy") (st := mth 11)
  obtain ⟨fdCh, FCh⟩ := mthAt c 33 (C := "Book") (m := "_check") (q := "Book._check") (st := mth 12)
  obtain ⟨fdAr, FAr⟩ := mthAt c 34 (C := "Book") (m := "_are_terms") (q := "Book._are_terms") (st := mth 13)
  obtain ⟨fdFi, FFi⟩ := mthAt c 35 (C := "Book") (m := "_fits") (q := "Book._fits") (st := mth 14)
  obtain ⟨fdPn, FPn⟩ := mthAt c 36 (C := "Book") (m := "_put_new") (q := "Book._put_new") (st := mth 15)
  obtain ⟨fdIn, FIn⟩ := mthAt c 37 (C := "Book") (m := "_inner") (q := "Book._inner") (st := mth 16)
  have bBel : Binds K fdBel ["bound", "thing"] [] := FBel.binds (ps := ["bound", "thing"]) fun _ _ _ _ _ _ us hl => match us, hl with | [_, _], _ => rfl
  have bSgn : Binds K fdSgn ["sign"] [] := FSgn.binds (ps := ["sign"]) fun _ _ _ _ _ _ us hl => match us, hl with | [_], _ => rfl
  have bNam : Binds K fdNam ["thing"] [] := FNam.binds (ps := ["thing"]) fun _ _ _ _ _ _ us hl => match us, hl with | [_], _ => rfl
  have bBag : Binds K fdBag ["script"] [] := FBag.binds (ps := ["script"]) fun _ _ _ _ _ _ us hl => match us, hl with | [_], _ => rfl
  have bPick : Binds K fdPick ["bag", "many"] [] := FPick.binds (ps := ["bag", "many"]) fun _ _ _ _ _ _ us hl => match us, hl with | [_, _], _ => rfl
  have bSome : Binds K fdSome ["bag", "things"] [] := FSome.binds (ps := ["bag", "things"]) fun _ _ _ _ _ _ us hl => match us, hl with | [_, _], _ => rfl
  have bEnt : Binds K fdEnt ["bag", "found"] [] := FEnt.binds (ps := ["bag", "found"]) fun _ _ _ _ _ _ us hl => match us, hl with | [_, _], _ => rfl
  have bAny : Binds K fdAny ["bag", "many"] [] := FAny.binds (ps := ["bag", "many"]) fun _ _ _ _ _ _ us hl => match us, hl with | [_, _], _ => rfl
  have bOld : Binds K fdOld ["bag", "many"] [] := FOld.binds (ps := ["bag", "many"]) fun _ _ _ _ _ _ us hl => match us, hl with | [_, _], _ => rfl
  have bBook : Binds K fdBook ["entries"] [] := FBook.binds (ps := ["entries"]) fun _ _ _ _ _ _ us hl => match us, hl with | [_], _ => rfl
  have bInn : Binds K fdInn ["entry"] [] := FInn.binds (ps := ["entry"]) fun _ _ _ _ _ _ us hl => match us, hl with | [_], _ => rfl
  have bWit : Binds K fdWit ["entries", "terms"] [] := FWit.binds (ps := ["entries", "terms"]) fun _ _ _ _ _ _ us hl => match us, hl with | [_, _], _ => rfl
  have bIsN : Binds K fdIsN ["thing", "many"] [] := FIsN.binds (ps := ["thing", "many"]) fun _ _ _ _ _ _ us hl => match us, hl with | [_, _], _ => rfl
  have bWord : Binds K fdWord ["asked"] [] := FWord.binds (ps := ["asked"]) fun _ _ _ _ _ _ us hl => match us, hl with | [_], _ => rfl
  have bDue : Binds K fdDue ["entries", "kind", "parts"] [] := FDue.binds (ps := ["entries", "kind", "parts"]) fun _ _ _ _ _ _ us hl => match us, hl with | [_, _, _], _ => rfl
  have bDeep : Binds K fdDeep [] [] := FDeep.binds (ps := []) fun _ _ _ _ _ _ us hl => match us, hl with | [], _ => rfl
  have bBent : Binds K fdBent ["bag", "entries", "entry"] [] := FBent.binds (ps := ["bag", "entries", "entry"]) fun _ _ _ _ _ _ us hl => match us, hl with | [_, _, _], _ => rfl
  have bPutR : Binds K fdPutR ["bag", "book", "entries"] [] := FPutR.binds (ps := ["bag", "book", "entries"]) fun _ _ _ _ _ _ us hl => match us, hl with | [_, _, _], _ => rfl
  have bDeps : Binds K fdDeps ["entries"] [] := FDeps.binds (ps := ["entries"]) fun _ _ _ _ _ _ us hl => match us, hl with | [_], _ => rfl
  have bTold : Binds K fdTold ["bag", "book", "entries"] [] := FTold.binds (ps := ["bag", "book", "entries"]) fun _ _ _ _ _ _ us hl => match us, hl with | [_, _, _], _ => rfl
  have bIni : Binds K fdIni ["self"] [] := FIni.binds (ps := ["self"]) fun _ _ _ _ _ _ us hl => match us, hl with | [_], _ => rfl
  have bEq : Binds K fdEq ["self", "other"] [] := FEq.binds (ps := ["self", "other"]) fun _ _ _ _ _ _ us hl => match us, hl with | [_, _], _ => rfl
  have bPut : Binds K fdPut ["self", "kind", "parts"] [] := FPut.binds (ps := ["self", "kind", "parts"]) fun _ _ _ _ _ _ us hl => match us, hl with | [_, _, _], _ => rfl
  have bFr : Binds K fdFr ["self"] [] := FFr.binds (ps := ["self"]) fun _ _ _ _ _ _ us hl => match us, hl with | [_], _ => rfl
  have bSz : Binds K fdSz ["self"] [] := FSz.binds (ps := ["self"]) fun _ _ _ _ _ _ us hl => match us, hl with | [_], _ => rfl
  have bNo : Binds K fdNo ["self", "kind", "parts"] [] := FNo.binds (ps := ["self", "kind", "parts"]) fun _ _ _ _ _ _ us hl => match us, hl with | [_, _, _], _ => rfl
  have bKi : Binds K fdKi ["self", "term"] [] := FKi.binds (ps := ["self", "term"]) fun _ _ _ _ _ _ us hl => match us, hl with | [_, _], _ => rfl
  have bPa : Binds K fdPa ["self", "term"] [] := FPa.binds (ps := ["self", "term"]) fun _ _ _ _ _ _ us hl => match us, hl with | [_, _], _ => rfl
  have bDe : Binds K fdDe ["self", "term"] [] := FDe.binds (ps := ["self", "term"]) fun _ _ _ _ _ _ us hl => match us, hl with | [_, _], _ => rfl
  have bWi : Binds K fdWi ["self", "terms"] [] := FWi.binds (ps := ["self", "terms"]) fun _ _ _ _ _ _ us hl => match us, hl with | [_, _], _ => rfl
  have bCo : Binds K fdCo ["self"] [] := FCo.binds (ps := ["self"]) fun _ _ _ _ _ _ us hl => match us, hl with | [_], _ => rfl
  have bCh : Binds K fdCh ["self", "term"] [] := FCh.binds (ps := ["self", "term"]) fun _ _ _ _ _ _ us hl => match us, hl with | [_, _], _ => rfl
  have bAr : Binds K fdAr ["self", "things"] [] := FAr.binds (ps := ["self", "things"]) fun _ _ _ _ _ _ us hl => match us, hl with | [_, _], _ => rfl
  have bFi : Binds K fdFi ["self", "kind", "parts"] [] := FFi.binds (ps := ["self", "kind", "parts"]) fun _ _ _ _ _ _ us hl => match us, hl with | [_, _, _], _ => rfl
  have bPn : Binds K fdPn ["self", "kind", "parts"] [] := FPn.binds (ps := ["self", "kind", "parts"]) fun _ _ _ _ _ _ us hl => match us, hl with | [_, _, _], _ => rfl
  have bIn : Binds K fdIn ["self", "term"] [] := FIn.binds (ps := ["self", "term"]) fun _ _ _ _ _ _ us hl => match us, hl with | [_, _], _ => rfl
  -- the program
  have GBel : FnOk P w K mg base CX0 (0 + 1) _ fdBel _ _ := ok_below FBel T
  have GNam : FnOk P w K mg base CX0 (0 + 2) _ fdNam _ _ := ok_nameT FNam T FSgn gSgn bSgn
  have GSz : FnOk P w K mg base CX0 (0 + 1) _ fdSz _ _ := ok_size FSz T cB
  have GNo : FnOk P w K mg base CX0 (0 + 1) _ fdNo _ _ := ok_numOf FNo cB
  have GCh : FnOk P w K mg base (CX P w) (0 + 3) _ fdCh _ _ := ok_check FCh T cB N FBel gBel bBel FSz (methM c) bSz
  have CH : ChkC P w K mg base (ga K "Book") (ga K "NoTerm") 3 := ⟨_, fdCh, GCh, methM c, bCh⟩
  have GKi : FnOk P w K mg base (CX P w) (0 + 4) _ fdKi _ _ := ok_kind FKi cB CH
  have GPa : FnOk P w K mg base (CX P w) (0 + 4) _ fdPa _ _ := ok_parts FPa cB CH
  have GDe : FnOk P w K mg base (CX P w) (0 + 4) _ fdDe _ _ := ok_depth FDe cB CH
  have GIn : FnOk P w K mg base CX0 (0 + 1) _ fdIn _ _ := ok_inner FIn cB LV
  have GAr : FnOk P w K mg base CX0 (0 + 2) _ fdAr _ _ := ok_areT FAr T cB FBel gBel bBel FSz (methM c) bSz
  have GFi : FnOk P w K mg base CX0 (0 + 3) _ fdFi _ _ := ok_fits FFi T cB CC GBel FBel.kp gBel bBel GNam FNam.kp (gloM X G c) bNam GAr (methM c) bAr
  have GPn : FnOk P w K mg base CX0 (0 + 2) _ fdPn _ _ := ok_putNew FPn T cB GSz (methM c) bSz GIn (methM c) bIn
  have GFr : FnOk P w K mg base CX0 (0 + 3) _ fdFr _ _ := ok_fresh FFr cB GPn (methM c) bPn
  have GPut : FnOk P w K mg base (CX P w) (0 + 4) _ fdPut _ _ := ok_put FPut T cB N PC GFi (methM c) bFi GNo (methM c) bNo GPn (methM c) bPn
  have GWi : FnOk P w K mg base (CX P w) (0 + 3) _ fdWi _ _ := ok_within FWi T cB N GAr (methM c) bAr GIn (methM c) bIn
  have GIni : FnOk P w K mg base CX0 (0 + 1) _ fdIni _ _ := ok_init FIni cB
  have GCo : FnOk P w K mg base CX0 (0 + 3) _ fdCo _ _ := ok_copy FCo T cB gB MK GIni bIni
  have GEq : FnOk P w K mg base CX0 (0 + 1) _ fdEq _ _ := ok_eqB FEq T cB m.bi gB
  -- the law's helpers
  have GBag : FnOk P w K mg base CX0 (0 + 1) _ fdBag _ _ := ok_bag FBag BT
  have gPick : mg "_law_pick" = some (.ref (ga K "_law_pick")) := gloM X G c
  have GPick : FnOk P w K mg base CX0 (0 + 1) _ fdPick _ _ := ok_pick FPick BT
  have GSome : FnOk P w K mg base CX0 (0 + 2) _ fdSome _ _ := ok_some FSome BT FPick gPick bPick
  have mm : mg "min" = none := freeM X G c
  have mr : mg "range" = none := freeM X G c
  have GAny : FnOk P w K mg base CX0 (0 + 2) _ fdAny _ _ := ok_any FAny mm GPick FPick.kp gPick bPick
  have GOld : FnOk P w K mg base CX0 (0 + 2) _ fdOld _ _ := ok_old FOld mm GPick FPick.kp gPick bPick
  have L : LfTxt P w K mg base 0 := ⟨T, mr, mm, _, fdPick, GPick, FPick.kp, gPick, bPick, _, fdSome, GSome, FSome.kp, gloM X G c, bSome, _, fdAny, GAny, FAny.kp, gloM X G c, bAny, _, fdOld, GOld, FOld.kp, gloM X G c, bOld⟩
  have GEnt : FnOk P w K mg base CX0 (0 + 3) _ fdEnt _ _ := ok_ent FEnt L
  have GInn : FnOk P w K mg base CX0 (0 + 1) _ fdInn _ _ := ok_inn FInn
  have GIsN : FnOk P w K mg base CX0 (0 + 1) _ fdIsN _ _ := ok_isN FIsN T
  have GWit : FnOk P w K mg base CX0 (0 + 2) _ fdWit _ _ := ok_wit FWit T GInn FInn.kp (gloM X G c) bInn
  have GDeep : FnOk P w K mg base CX0 (0 + 1) _ fdDeep _ _ := ok_deep FDeep T mr
  have GDue : FnOk P w K mg base CX0 (0 + 2) _ fdDue _ _ := ok_due FDue T GIsN FIsN.kp (gloM X G c) bIsN
  have GBent : FnOk P w K mg base CX0 (0 + 3) _ fdBent _ _ := ok_bent FBent L GDeep FDeep.kp (gloM X G c) bDeep
  have GBook : FnOk P w K mg base CX0 (0 + 5) _ fdBook _ _ := ok_book FBook cB gB MK GIni bIni GFr (methM c) bFr GPut (methM c) bPut
  have GDeps : FnOk P w K mg base CX0 (0 + 2) _ fdDeps _ _ := ok_deps FDeps T GInn FInn.kp (gloM X G c) bInn
  have W : WordC P w K mg base (ga K "PostError") (ga K "NoKind") (ga K "NoParts") (ga K "NoTerm") (ga K "NoTerms") := ⟨wordTxt X G c m, _, fdWord, FWord, gloM X G c, bWord⟩
  have GPutR : FnOk P w K mg base CX0 (0 + 7) _ fdPutR _ (spPutR P w (ga K "Book") (ttK K)) := ok_putR FPutR (code_of FPutR) L cB W (hTB _ (List.mem_cons_self ..)) (List.mem_cons_self ..) (fun p hp e => by
      rcases List.mem_cons.mp hp with rfl | hp
      · rfl
      · rw [List.mem_singleton] at hp; subst hp; exact absurd e.symm m.tt)
    GEnt FEnt.kp (gloM X G c) bEnt GBent FBent.kp (gloM X G c) bBent GDue FDue.kp (gloM X G c) bDue GFr (methM c) bFr GPut (methM c) bPut
  have GTold : FnOk P w K mg base CX0 (0 + 7) _ fdTold _ (spTold P w (ga K "Book") (ttK K)) := ok_told FTold (code_of FTold) L cB W (hTB _ (List.mem_cons_of_mem _ (List.mem_cons_self ..))) (List.mem_cons_of_mem _ (List.mem_cons_self ..)) (fun p hp e => by
      rcases List.mem_cons.mp hp with rfl | hp
      · exact absurd e m.tt
      · rw [List.mem_singleton] at hp; subst hp; rfl)
    GDeep FDeep.kp (gloM X G c) bDeep GWit FWit.kp (gloM X G c) bWit GDeps FDeps.kp (gloM X G c) bDeps GSz (methM c) bSz GKi (methM c) bKi GPa (methM c) bPa GDe (methM c) bDe (GWi.mono (by omega)) (methM c) bWi
  exact ok_law (k := 0) FLaw L cB m.bi m.be gB MK GBag FBag.kp (gloM X G c) bBag GIni bIni GPutR FPutR.kp (gloM X G c) bPutR GTold FTold.kp (gloM X G c) bTold GBook FBook.kp (gloM X G c) bBook GCo (methM c) bCo GEq bEq
end
end L2.My
end
set_option Elab.async false
set_option linter.all false
set_option maxRecDepth 100000
set_option maxHeartbeats 0
open PySem PySem.W PySem.Calls PyProof.Rows
theorem PySem.Challenge.cw_strangerspost_k01_books_by_own_account_holds : PySem.Challenge.rw_strangerspost_k01_books_by_own_account.Holds := by
  w_on; o_law
  refine HandSHeadRun.head_any (r := OpenLaw.row PySem.Challenge.rw_strangerspost_k01_books_by_own_account) (q := view (OpenLaw.row PySem.Challenge.rw_strangerspost_k01_books_by_own_account).prog [37]) (H := L2.My.hkK) (ob := L2.My.obK) (M := 12000) (loose := L2.My.looA ++ L2.My.looB) (d := HandSHeadRun.topDef (OpenLaw.row PySem.Challenge.rw_strangerspost_k01_books_by_own_account).prog 37) (kwd := []) L2.My.obK_eq
    (by kernel_rfl) (fun s => by kernel_rfl) L2.My.run (by kernel_rfl) (by kernel_rfl) (by kernel_rfl) (by rfl) (by first | assumption | decide +kernel) (by decide +kernel) ⟨rfl, rfl, rfl, rfl, rfl, by decide +kernel⟩ ?hw ?hc
  case hw => w_witness2
  case hc =>
    refine LamX.walk_ofTsE (l := PySem.Challenge.rw_strangerspost_k01_books_by_own_account) (n := 63) (k := 9) (x := "script") (CX := fun _ => L2.CX0) rfl (by decide) (by kernel_rfl) ⟨rfl, by decide, by decide⟩ ?F (fun _ _ _ _ _ z => z)
    intro w mg fa h Y G hmg0
    obtain ⟨K, KX, c⟩ := Y
    have hmg : mg ("law" : PySem.Str) = some (.ref fa) := by
      have e : (HandSHeadRun.topDef (OpenLaw.row PySem.Challenge.rw_strangerspost_k01_books_by_own_account).prog 37).name = ("law" : PySem.Str) := by kernel_rfl
      rw [← e]
      exact hmg0
    obtain ⟨fd, hb, hF⟩ := L2.My.facts (P := (PySem.Challenge.rw_strangerspost_k01_books_by_own_account).prog) (w := w) KX G hmg c
    refine ⟨K, KX, fd, L2.My.csK K, L2.My.spLaw K (L2.My.ttK K), fun p hp => ?_, fun p hp => ?_, fun p hp => ?_, hb, fun H a ns hl _ hH hS => ⟨a, ns, rfl, hS, hl, fun p hp => ?_, fun _ => rfl⟩, hF⟩
    · obtain ⟨q, hq, rfl⟩ := List.mem_map.mp (show p ∈ L2.My.tfK.map (He.cT K) from hp)
      exact c.empty q hq
    · obtain ⟨q, hq, rfl⟩ := List.mem_map.mp (show p ∈ L2.My.tfK.map (He.cT K) from hp)
      exact c.out q hq
    · obtain ⟨q, hq, rfl⟩ := List.mem_map.mp (show p ∈ L2.My.tfK.map (He.cT K) from hp)
      exact PySem.W.codeHd_of_K KX (c.hd q hq)
    · rcases List.mem_cons.mp hp with rfl | hp
      · exact LamX.TabS.nil (hH _ (List.mem_cons_self ..))
      · rw [List.mem_singleton] at hp
        subst hp
        exact LamX.TabS.nil (hH _ (List.mem_cons_of_mem _ (List.mem_cons_self ..)))

