import PyProof.Rows.All
import Wide.All
import OpenK.AllK
import Wide.FinOn
import HandS.TupSets
import HandS.DictTup
import HandS.SortRule
import KE.KSortTupAny
import HandS.Conv
import HandS.TupLe
import HandS.ForMost
import HandS.Exc
import HandS.Walk
import HandS.Comp
import HandS.Style
import HandS.Deep
import HandS.DictComp
import HandS.SetKeys
import HandS.TupLen
import HandS.TupAny
import HandS.IsInst
import HandS.Sort
import HandS.WideBits
import KE.GoesEnum
import KE.GoesZip
import KE.GoesMore
import HandS.SetFor
import HandS.SortKw
import HandS.ExcValue
import KE.KExcIs
import HandS.ExcInit
import PyProof.DictMoreH
import KE.KDictKeyed
import KE.KBits
import HandS.WordsExc
import HandS.Zip
import HandS.Steps
import HandS.TupMul
import HandS.HeadHook4
import HandS.HeadEnd
import HandS.Head2
import HandS.HeadHook3
import HandS.NestedK
import HandS.HeadWalk
import PySem.Challenge.RW_strangerspost_k52_whole_reasons_and_clos
section
set_option Elab.async false
set_option linter.all false
set_option maxRecDepth 100000
set_option maxHeartbeats 4000000
namespace L2.My
open PySem PySem.Spec PyProof.Rows
/-! sets of things that stand on the heap and have a key (tuples of ints and texts among them) -/
/-- what may stand in such a set -/
structure Able {P : Program} {w : World} {K : Type} [DecidableEq K] (κ : HeapKind P w K) : Prop where
  cls : ∀ {A : Around} {E : Value → Shared → Prop} {s : Shared} {k : K} {b : Addr} {Q : Bool → Shared → Prop}, κ.is s.heap k b → Q false s → wpAny (model P w) A (ofAClassStatement 8 (.ref b)) Q E s
  byv : ∀ {A : Around} {E : Value → Shared → Prop} {s : Shared} {k : K} {b : Addr} {Q : Bool → Shared → Prop}, κ.is s.heap k b → (∀ r, Q r s) → wpAny (model P w) A (hashByValue 8 (.ref b)) Q E s
  keep : ∀ {h h' : Heap} {k : K} {b d : Addr} {o : Obj} {es : Array (Int × Value)} {ep : Nat} {t : SetTable}, κ.is h k b → h.get? d = some o → o.data = .set es ep t → Heap.SameBut d h h' → κ.is h' k b
  ext : ∀ {h h' : Heap} {k : K} {b : Addr}, κ.is h k b → (∀ c o, h.get? c = some o → h'.get? c = some o) → κ.is h' k b
section
variable {P : Program} {w : World} {K : Type} [DecidableEq K] {κ : HeapKind P w K}
/-- the rows of a set -/
def ent (κ : HeapKind P w K) (L : List (Addr × K)) : List (Int × Value) := L.map fun p => (κ.hash p.2, Value.ref p.1)
abbrev hsh (κ : HeapKind P w K) (L : List (Addr × K)) : List Int := L.map fun p => κ.hash p.2
theorem ent_at {L : List (Addr × K)} {i : Nat} {p : Addr × K} (h : L[i]? = some p) : (ent κ L).toArray[i]? = some (κ.hash p.2, Value.ref p.1) := by
  unfold ent
  simp [h]
theorem ent_len {L : List (Addr × K)} : (ent κ L).toArray.size = L.length := by
  unfold ent
  simp
/-- the set at a holds these things, laid so -/
structure Lies (κ : HeapKind P w K) (h : Heap) (a : Addr) (L : List (Addr × K)) (ep : Nat) (t : SetTable) : Prop where
  obj : ∃ o, h.get? a = some o ∧ o.ExactSet ∧ o.data = .set (ent κ L).toArray ep t
  tab : TabOk t (hsh κ L)
  nd : (L.map (·.2)).Nodup
  all : ∀ p ∈ L, κ.is h p.2 p.1
  led : w.params.followText "set-order" = true ∨ t.led = true
  room : L.length * 5 < t.mask * 3
  few : L.length < 64
variable {A : Around} {E : Value → Shared → Prop} {s : Shared} {a : Addr} {L : List (Addr × K)} {ep : Nat} {t : SetTable}
theorem lies_fits {L : List (Addr × K)} (T : TabOk t (hsh κ L)) (hr : L.length ≤ t.mask) : t.fits (ent κ L).toArray.size = true := by
  have h1 := T.sz
  rw [List.length_map] at h1
  rw [ent_len]
  unfold SetTable.fits SetTable.fill
  rw [T.dm, h1]
  simp
  exact hr
theorem Lies.fits (R : Lies κ s.heap a L ep t) : t.fits (ent κ L).toArray.size = true := lies_fits R.tab (by have := R.room; omega)
/-- nothing is seen of a search among such things -/
theorem unseen (G : Able κ) {k : K} {b : Addr} {Q : Bool → Shared → Prop} (hk : κ.is s.heap k b) {ys : List Value} (hy : ∀ y ∈ ys, ∃ k' c, y = Value.ref c ∧ κ.is s.heap k' c) (h : Q false s) :
    wpAny (model P w) A (searchCouldBeSeen (.ref b) ys) Q E s := by
  unfold searchCouldBeSeen
  refine wpAny_bind (wpAny_forIn_list _ (fun l r s' => (r.1 = none ∧ s' = s) ∧ ∀ y ∈ l, ∃ k' c, y = Value.ref c ∧ κ.is s.heap k' c) _ (fun y l r s' H => ?_) (fun r s' H => ?_) _ _ ⟨⟨rfl, rfl⟩, hy⟩)
  · obtain ⟨⟨e1, e2⟩, H2⟩ := H
    obtain ⟨k', c, e3, hc⟩ := H2 y List.mem_cons_self
    have H3 := fun u (hu : u ∈ l) => H2 u (List.mem_cons_of_mem _ hu)
    subst e2 e3
    dsimp only
    by_cases q : (b == c || (carriedByValue (.ref b) && carriedByValue (.ref c))) = true
    · exact wp_if_pos q (wpAny_pure ⟨⟨rfl, rfl⟩, H3⟩)
    · refine wp_if_neg q (wpAny_bind (κ.quiet hk ?_))
      simp only [Bool.not_true, Bool.false_eq_true, if_false]
      refine wpAny_bind (κ.quiet hc ?_)
      simp only [Bool.not_true, Bool.false_eq_true, if_false]
      refine wpAny_bind (G.cls hk ?_)
      simp only [Bool.false_eq_true, if_false]
      refine wpAny_bind (G.cls hc ?_)
      simp only [Bool.false_eq_true, if_false]
      exact wpAny_pure ⟨⟨rfl, rfl⟩, H3⟩
  · obtain ⟨r1, r2⟩ := r
    obtain ⟨⟨e1, e2⟩, _⟩ := H
    subst e2
    cases e1
    exact wpAny_pure h
/-- where the way of a hash stands -/
abbrev spot (m : Nat) (h : Int) : Nat → SetTable.Probe := nth m (runAt m (SetTable.bits h % (m + 1)) (SetTable.bits h))
theorem spot_dummy (m : Nat) (h : Int) (c : Nat) : (spot m h c).dummy = none := by
  have z : ∀ n (p : SetTable.Probe), p.dummy = none → (nth m p n).dummy = none := fun n => by
    induction n with
    | zero => exact fun p e => e
    | succ n ih => exact fun p e => ih _ (by unfold adv; split <;> exact e)
  exact z c _ rfl
theorem hunt (G : Able κ) (R : Lies κ s.heap a L ep t) {x : Addr} {k : K} (hx : κ.is s.heap k x) (hu : κ.room A) (hu2 : κ.room A.in1) {K0 : Nat} (hb : K0 < 10 * SetTable.turns t.mask) (free : way t.mask (κ.hash k) K0 ∉ t.place.toList)
    (busy : ∀ c, c < K0 → way t.mask (κ.hash k) c ∈ t.place.toList) {Q : SetFound → Shared → Prop} (hin : k ∈ L.map (·.2) → Q (.there none) s) (hout : k ∉ L.map (·.2) → Q (.free (way t.mask (κ.hash k) K0) false) s) :
    ∀ (f c : Nat) (st : Option SetTable.Probe), st.getD (t.probeStart (κ.hash k)) = spot t.mask (κ.hash k) c → c ≤ K0 → K0 - c < f →
      (∀ (i : Nat) p, L[i]? = some p → p.2 = k → ∃ c', c ≤ c' ∧ c' < K0 ∧ t.place.toList[i]? = some (way t.mask (κ.hash k) c')) → wpAny (model P w) A (setSearchFrom a (.ref x) (κ.hash k) true f st) Q E s := by
  obtain ⟨o, ho, hex, hd⟩ := R.obj
  have hm : ∀ (i : Nat) (p : Addr × K), L[i]? = some p → (((ent κ L).toArray[i]?).map (·.1)).getD 0 = κ.hash p.2 := fun i p e => by rw [ent_at e]; rfl
  intro f
  induction f with
  | zero => exact fun c st _ _ h => absurd h (Nat.not_lt_zero _)
  | succ f ih =>
    intro c st hst hc hf ahead
    have gone : ∀ q, nth t.mask (spot t.mask (κ.hash k) c) q = spot t.mask (κ.hash k) (c + q) := fun q => (nth_add _ _ _ _).symm
    have word := go_spec t R.tab.ris R.tab.dm (fun i => (((ent κ L).toArray[i]?).map (·.1)).getD 0) (κ.hash k) (10 * SetTable.turns t.mask) (K0 - c) (spot t.mask (κ.hash k) c) (spot_dummy _ _ _) (by omega)
      (fun q hq => by rw [gone]; exact busy _ (by omega)) (by rw [gone, Nat.add_sub_cancel' hc]; exact free)
    simp only [gone] at word
    rw [← hst] at word
    have pe : t.probe (fun i => (((ent κ L).toArray[i]?).map (·.1)).getD 0) (κ.hash k) (st.getD (t.probeStart (κ.hash k))) = SetTable.probe.go t (fun i => (((ent κ L).toArray[i]?).map (·.1)).getD 0) (κ.hash k) (10 * SetTable.turns t.mask) (st.getD (t.probeStart (κ.hash k))) := rfl
    rw [← pe] at word
    rw [setSearchFrom_succ]
    refine wpAny_bind (wpAny_setState_of ho hd R.fits ?_)
    refine wp_if_neg (by unfold SetTable.gaveWay; rw [mask_odd R.tab.mok]; decide) ?_
    try refine wpAny_bind (wpAny_pure ?_)
    rcases word with ⟨q, i, hq, hi, hh, hno, hpr⟩ | ⟨hno, hpr⟩
    · rw [hpr]
      dsimp only
      have hil : i < L.length := by
        have z1 := (List.getElem?_eq_some_iff.mp hi).1
        have z2 := R.tab.sz
        rw [List.length_map] at z2
        rw [Array.length_toList, z2] at z1
        exact z1
      obtain ⟨p, hp⟩ : ∃ p, L[i]? = some p := ⟨_, List.getElem?_eq_getElem hil⟩
      have pm := List.mem_of_getElem? hp
      have live := slot_live R.tab.ris hi
      have go : wpAny (model P w) A (searchRest a (.ref x) (κ.hash k) true f (ent κ L).toArray t (way t.mask (κ.hash k) (c + q)) i (spot t.mask (κ.hash k) (c + (q + 1)))) Q E s := by
        unfold searchRest
        rw [ent_at hp]
        dsimp only
        refine wpAny_bind (wpAny_holding (κ.eqBool hu (R.all p pm) hx ?_))
        refine wpAny_bind (wpAny_setState_of ho hd R.fits ?_)
        dsimp only
        by_cases same : p.2 = k
        · exact wp_if_pos (by simp [same]) (wpAny_pure (hin (List.mem_map.mpr ⟨p, pm, same⟩)))
        · refine wp_if_neg (by simp [same]) ?_
          try refine wpAny_bind (wpAny_pure ?_)
          rw [sameMem]
          dsimp only
          simp only [if_true, live, ent_at hp]
          refine wpAny_bind (wpAny_isSame_ref_self (wpAny_bind (wpAny_pure ?_)))
          simp only [if_true]
          refine wp_if_neg (by simp [same]) (ih (c + (q + 1)) _ rfl (by omega) (by omega) fun j p' hj hk => ?_)
          obtain ⟨c', a1, a2, a3⟩ := ahead j p' hj hk
          have b1 : c + q ≤ c' := Nat.le_of_not_lt fun z => by
            refine hno (c' - c) j (by omega) (by rw [Nat.add_sub_cancel' a1]; exact a3) ?_
            rw [hm j p' hj, hk]
          have b2 : c + q ≠ c' := fun z => by
            rw [← z] at a3
            have l2 := slot_live R.tab.ris a3
            rw [live] at l2
            cases l2
            rw [hp] at hj
            cases hj
            exact same hk
          exact ⟨c', by omega, a2, a3⟩
      by_cases hl : t.led = true
      · refine wp_if_neg (by simp [hl]) ?_
        try refine wpAny_bind (wpAny_pure ?_)
        exact go
      · refine wp_if_pos (by simp [hl]) (wpAny_bind (unseen G hx (fun y hy => ?_) (wp_if_neg (by decide) ?_)))
        · obtain ⟨e, he, rfl⟩ := List.mem_map.mp hy
          have he2 : e ∈ ent κ L := by
            have z : e ∈ (ent κ L).toArray ∧ e.1 = κ.hash k := by simpa using he
            simpa using z.1
          obtain ⟨p2, hp2, rfl⟩ := List.mem_map.mp he2
          exact ⟨p2.2, p2.1, rfl, R.all p2 hp2⟩
        · try refine wpAny_bind (wpAny_pure ?_)
          exact go
    · rw [hpr, Nat.add_sub_cancel' hc]
      refine wpAny_pure (hout fun mem => ?_)
      obtain ⟨p', hp', hk⟩ := List.mem_map.mp mem
      obtain ⟨j, hj⟩ := List.getElem?_of_mem hp'
      obtain ⟨c', a1, a2, a3⟩ := ahead j p' hj hk
      refine hno (c' - c) j (by omega) (by rw [Nat.add_sub_cancel' a1]; exact a3) ?_
      rw [hm j p' hj, hk]
end
end L2.My
end
section
set_option Elab.async false
set_option linter.all false
set_option maxRecDepth 100000
set_option maxHeartbeats 4000000
namespace L2.My
open PySem PySem.Spec PyProof.Rows
section
variable {P : Program} {w : World} {K : Type} [DecidableEq K] {κ : HeapKind P w K}
variable {A : Around} {E : Value → Shared → Prop} {s : Shared} {a : Addr} {L : List (Addr × K)} {ep : Nat} {t : SetTable}
theorem pick_all (L : List (Addr × K)) : ∀ n, n ≤ L.length → (List.range n).filterMap (fun i => L[i]?) = L.take n
  | 0, _ => by simp
  | n + 1, h => by
    rw [List.range_succ, List.filterMap_append, pick_all L n (by omega), List.take_succ]
    congr 1
theorem ent_pick {L : List (Addr × K)} (l : List Nat) : l.filterMap (fun i => (ent κ L)[i]?) = ent κ (l.filterMap fun i => L[i]?) := by
  unfold ent
  rw [List.map_filterMap]
  congr 1
  funext i
  rw [List.getElem?_map]
theorem hsh_pick {L : List (Addr × K)} : ∀ (l : List Nat), (∀ i ∈ l, i < L.length) → hsh κ (l.filterMap fun i => L[i]?) = l.map fun i => ((ent κ L).toArray.map (·.1)).getD i 0
  | [], _ => rfl
  | i :: l, h => by
    have hi := h i List.mem_cons_self
    rw [List.filterMap_cons_some (List.getElem?_eq_getElem hi), List.map_cons, ← hsh_pick l fun j hj => h j (List.mem_cons_of_mem _ hj)]
    show κ.hash L[i].2 :: hsh κ _ = _
    congr 1
    have q : ((ent κ L).toArray.map (·.1))[i]? = some (κ.hash L[i].2) := by rw [Array.getElem?_map, ent_at (List.getElem?_eq_getElem hi)]; rfl
    rw [Array.getD_eq_getD_getElem?, q]
    rfl
/-- the table is laid anew -/
theorem relay (G : Able κ) {o : Obj} (ho : s.heap.get? a = some o) (hex : o.ExactSet) (hd : o.data = .set (ent κ L).toArray ep t) (T : TabOk t (hsh κ L)) (hm : L.length ≤ t.mask) (nd : (L.map (·.2)).Nodup) (all : ∀ p ∈ L, κ.is s.heap p.2 p.1)
    (ld : w.params.followText "set-order" = true ∨ t.led = true) (few : L.length < 64) {n M : Nat} (h1 : SetTable.sizeAbove n - 1 = M) (h2 : MaskOk M) (h3 : SetTable.sizeAbove n ≤ 128) (h4 : L.length * 5 < M * 3) {Q : Unit → Shared → Prop}
    (hQ : ∀ h' L' ep' t', Heap.SameBut a s.heap h' → Lies κ h' a L' ep' t' → L'.Perm L → Q () { s with heap := h' }) : wpAny (model P w) A (setRelay a n) Q E s := by
  obtain ⟨t', order, e, hp, T', e1, e2, e3, e4⟩ := relaid_ok t (hs := (ent κ L).toArray.map (·.1)) (wanted := n) h1 h2 (by rw [Array.size_map, ent_len]; omega)
  rw [Array.size_map, ent_len] at hp
  have low : ∀ i ∈ order.toList, i < L.length := fun i hi => List.mem_range.mp (hp.mem_iff.mp hi)
  have hes : order.filterMap (fun i => (ent κ L).toArray[i]?) = (ent κ (order.toList.filterMap fun i => L[i]?)).toArray := by
    refine Array.toList_inj.mp ?_
    rw [Array.toList_filterMap, ← ent_pick]
    simp
  have perm : (order.toList.filterMap fun i => L[i]?).Perm L := by
    have z := hp.filterMap fun i => L[i]?
    rw [pick_all L _ (Nat.le_refl _), List.take_length] at z
    exact z
  rw [← hsh_pick _ low] at T'
  generalize order.toList.filterMap (fun i => L[i]?) = L' at hes perm T'
  have len := perm.length_eq
  rw [setRelay_eq]
  refine wpAny_bind (wpAny_setState_of ho hd (lies_fits T hm) ?_)
  dsimp only
  refine wp_if_neg (by rw [sizeLine_eq]; omega) ?_
  try refine wpAny_bind (wpAny_pure ?_)
  rw [e]
  dsimp only
  rw [hes]
  refine wpAny_bind (wp_if_neg (by rw [ent_len, ent_len, len]; simp) ?_)
  try refine wpAny_bind (wpAny_pure ?_)
  refine wpAny_pure (wpAny_storeSet_of ho hd ?_ (by rw [ent_len, sizeLine_eq]; omega))
  have sb : Heap.SameBut a s.heap (s.heap.update a (Obj.putSet (ent κ L').toArray t')) := Heap.SameBut.update ..
  exact hQ _ L' (ep + 1) t' sb ⟨⟨_, store_at ho hd, ⟨hex.1, hex.2.1, hex.2.2⟩, rfl⟩, T', (perm.map (·.2)).nodup_iff.mpr nd, fun p hpm => G.keep (all p (perm.mem_iff.mp hpm)) ho hd sb,
    by rw [e2]; exact ld, by rw [len, e1]; exact h4, by rw [len]; exact few⟩ perm
theorem wp_any_flag {M : Model} {c : Prop} [Decidable c] {m : Sem Bool} {β : Type} {f : Bool → Sem β} {Q : β → Shared → Prop} (h1 : ∀ {Q' : Bool → Shared → Prop}, (∀ r, Q' r s) → wpAny M A m Q' E s) (h2 : ∀ r, wpAny M A (f r) Q E s) :
    wpAny M A (if c then m >>= f else pure true >>= f) Q E s := by
  by_cases q : c
  · exact wp_if_pos q (wpAny_bind (h1 h2))
  · exact wp_if_neg q (wpAny_bind (wpAny_pure (h2 true)))
theorem ent_ins (L : List (Addr × K)) (n : Nat) (x : Addr) (k : K) : SetTable.insertAt (ent κ L).toArray n (κ.hash k, Value.ref x) = (ent κ (L.take n ++ (x, k) :: L.drop n)).toArray := by
  refine Array.toList_inj.mp ?_
  rw [SetTable.toList_insertAt]
  unfold ent
  simp [List.map_take, List.map_drop]
/-- one more thing, unless its key is there -/
theorem join1 (G : Able κ) (R : Lies κ s.heap a L ep t) {x : Addr} {k : K} (hx : κ.is s.heap k x) (hr : κ.room A.in1) (hr' : κ.room A) (few : L.length + 1 < 64) {Q : Bool → Shared → Prop}
    (hQ : ∀ b h' L' ep' t', Heap.SameBut a s.heap h' → Lies κ h' a L' ep' t' → (k ∈ L.map (·.2) ∧ L' = L ∨ k ∉ L.map (·.2) ∧ L'.Perm ((x, k) :: L)) → Q b { s with heap := h' }) :
    wpAny (model P w) A (setAddHashed a (.ref x) (κ.hash k)) Q E s := by
  obtain ⟨o, ho, hex, hd⟩ := R.obj
  have room := R.room
  have hl : (hsh κ L).length = L.length := List.length_map _
  unfold setAddHashed
  refine wpAny_holding ?_
  rw [show (100000 : Nat) = 99999 + 1 from rfl, setAddHashedIn_succ]
  refine wpAny_bind (wpAny_setState_of ho hd R.fits ?_)
  dsimp only
  refine wp_if_neg (by simp [byScan, Value.scannable]) ?_
  try refine wpAny_bind (wpAny_pure ?_)
  obtain ⟨K0, b1, b2, b3⟩ := R.tab.first (by rw [hl]; omega) (κ.hash k)
  have b4 : K0 < 100000 := by
    have z : 10 * SetTable.turns t.mask ≤ 5000 := by
      unfold SetTable.turns
      rcases R.tab.mok with e | e | e <;> omega
    omega
  refine wpAny_bind ?_
  unfold setSearch
  refine hunt G R hx hr' hr b1 b2 b3 (fun mem => ?_) (fun mem => ?_) 100000 0 none rfl (Nat.zero_le _) (by omega) fun i p hp hk => ?_
  · exact wpAny_pure (hQ false s.heap L ep t (Heap.SameBut.refl a s.heap) R (.inl ⟨mem, rfl⟩))
  · dsimp only
    refine wpAny_bind (wpAny_setState_of ho hd R.fits ?_)
    dsimp only
    obtain ⟨q1, q2, q3, q4, q5, q6, q7, q8, q9⟩ := R.tab.put b2 b3
    rw [hl] at q9
    have ld1 : w.params.followText "set-order" = true ∨ (t.put (way t.mask (κ.hash k) K0)).1.led = true := by rw [q5]; exact R.led
    generalize t.put (way t.mask (κ.hash k) K0) = pt at q1 q3 q4 q9 ld1 ⊢
    obtain ⟨t1, n⟩ := pt
    dsimp only at q1 q3 q4 q9 ld1 ⊢
    rw [← q1] at q3
    clear q1 q2 q5 q6 q7 q8
    refine wp_any_flag (fun z => G.byv hx z) fun r => ?_
    have tb : TabOk (if r = true then t1 else { t1 with plain := false }) ((hsh κ L).take n ++ κ.hash k :: (hsh κ L).drop n) ∧ (if r = true then t1 else { t1 with plain := false }).mask = t.mask ∧ (if r = true then t1 else { t1 with plain := false }).fill = L.length + 1 ∧
        (w.params.followText "set-order" = true ∨ (if r = true then t1 else { t1 with plain := false }).led = true) := by
      cases r
      · exact ⟨⟨q3.1, q3.2, q3.3, q3.4, q3.5, q3.6⟩, q4, q9, ld1⟩
      · exact ⟨q3, q4, q9, ld1⟩
    generalize (if r = true then t1 else { t1 with plain := false }) = t2 at tb ⊢
    clear q3 q4 q9 ld1
    obtain ⟨q3, q4, q9, ld1⟩ := tb
    clear t1
    revert t2
    intro t1 q3 q4 q9 ld1
    rw [ent_ins]
    have perm : (L.take n ++ (x, k) :: L.drop n).Perm ((x, k) :: L) := by
      have z : (L.take n ++ (x, k) :: L.drop n).Perm ((x, k) :: (L.take n ++ L.drop n)) := List.perm_middle
      rw [List.take_append_drop] at z
      exact z
    have eh : (hsh κ L).take n ++ κ.hash k :: (hsh κ L).drop n = hsh κ (L.take n ++ (x, k) :: L.drop n) := by
      simp [hsh, List.map_take, List.map_drop]
    rw [eh] at q3
    generalize L.take n ++ (x, k) :: L.drop n = L1 at perm q3 ⊢
    have len : L1.length = L.length + 1 := perm.length_eq
    have nd1 : (L1.map (·.2)).Nodup := (perm.map (·.2)).nodup_iff.mpr (List.nodup_cons.mpr ⟨mem, R.nd⟩)
    refine wpAny_bind (wpAny_storeSet_of ho hd ?_ (by rw [ent_len, len, sizeLine_eq]; omega))
    have sb : Heap.SameBut a s.heap (s.heap.update a (Obj.putSet (ent κ L1).toArray t1)) := Heap.SameBut.update ..
    have ho1 := store_at (es' := (ent κ L1).toArray) (t' := t1) ho hd
    generalize s.heap.update a (Obj.putSet (ent κ L1).toArray t1) = h1 at sb ho1 ⊢
    have all1 : ∀ p ∈ L1, κ.is h1 p.2 p.1 := fun p hp => by
      rcases List.mem_cons.mp (perm.mem_iff.mp hp) with e | hp
      · rw [e]; exact G.keep hx ho hd sb
      · exact G.keep (R.all p hp) ho hd sb
    have full : t1.tooFull = decide ((L.length + 1) * 5 ≥ t.mask * 3) := by
      unfold SetTable.tooFull
      rw [q9, q4]
    by_cases hf : t1.tooFull = true
    · rw [full, decide_eq_true_eq] at hf
      have ft : t1.tooFull = true := by rw [full]; exact decide_eq_true hf
      first
        | (refine wpAny_bind (wp_if_pos (by simp [ft]) ?_))
        | (refine wp_if_pos (by simp [ft]) (wpAny_bind ?_))
      rw [ent_len]
      have step : ∀ M, SetTable.sizeAbove (SetTable.grown (L.length + 1)) - 1 = M → MaskOk M → SetTable.sizeAbove (SetTable.grown (L.length + 1)) ≤ 128 → (L.length + 1) * 5 < M * 3 → L.length + 1 ≤ t.mask →
          wpAny (model P w) A (setRelay a (SetTable.grown (L.length + 1))) (fun _ s' => wpAny (model P w) A (pure true) Q E s') E { s with heap := h1 } := fun M z1 z2 z3 z4 z5 =>
        relay (s := { s with heap := h1 }) G ho1 ⟨hex.1, hex.2.1, hex.2.2⟩ rfl q3 (by rw [len, q4]; exact z5) nd1 all1 ld1 (by rw [len]; exact few) z1 z2 z3 (by rw [len]; exact z4) fun h2 L2 ep2 t2 sb2 R2 p2 =>
          wpAny_pure (hQ true h2 L2 ep2 t2 (sb.trans sb2) R2 (.inr ⟨mem, p2.trans perm⟩))
      rcases R.tab.mok with e | e | e <;> rw [e] at hf room
      · have e5 : L.length = 4 := by omega
        rw [e5] at step ⊢
        exact step 31 (by rw [size_20]) (.inr (.inl rfl)) (by rw [size_20]; decide) (by decide) (by rw [e]; decide)
      · have e5 : L.length = 18 := by omega
        rw [e5] at step ⊢
        exact step 127 (by rw [size_76]) (.inr (.inr rfl)) (by rw [size_76]; decide) (by decide) (by rw [e]; decide)
      · omega
    · first
        | refine wp_if_neg (by simp [hf]) ?_
        | (refine wpAny_bind (wp_if_neg (by simp [hf]) (wpAny_pure ?_)))
      rw [full, decide_eq_true_eq] at hf
      exact wpAny_pure (hQ true h1 L1 (ep + 1) t1 sb ⟨⟨_, ho1, ⟨hex.1, hex.2.1, hex.2.2⟩, rfl⟩, q3, nd1, all1, ld1, by rw [len, q4]; omega, by rw [len]; exact few⟩ (.inr ⟨mem, perm⟩))
  · have z1 := List.getElem?_eq_some_iff.mp hp
    have hh : (hsh κ L)[i]? = some (κ.hash k) := by rw [List.getElem?_map, hp, ← hk]; rfl
    have hil : i < t.place.toList.length := by
      rw [Array.length_toList, R.tab.sz, hl]
      exact z1.1
    obtain ⟨c, hc, e⟩ := R.tab.before b2 hh (List.getElem?_eq_getElem hil)
    exact ⟨c, Nat.zero_le _, hc, by rw [List.getElem?_eq_getElem hil, e]⟩
end
end L2.My
end
section
set_option Elab.async false
set_option linter.all false
set_option maxRecDepth 100000
set_option maxHeartbeats 4000000
namespace L2.My
open PySem PySem.Spec PyProof.Rows
section
variable {P : Program} {w : World} {K : Type} [DecidableEq K] {κ : HeapKind P w K}
variable {A : Around} {E : Value → Shared → Prop} {s : Shared} {a : Addr} {L : List (Addr × K)} {ep : Nat} {t : SetTable}
/-- what has been taken of the first i of some things -/
def Took (ks : List (Addr × K)) (i : Nat) (L : List (Addr × K)) : Prop := (∀ p ∈ L, p ∈ ks.take i) ∧ ∀ p ∈ ks.take i, p.2 ∈ L.map (·.2)
theorem Took.step {ks L L' : List (Addr × K)} {i : Nat} {x : Addr} {k : K} (g : Took ks i L) (h : ks[i]? = some (x, k)) (c : k ∈ L.map (·.2) ∧ L' = L ∨ k ∉ L.map (·.2) ∧ L'.Perm ((x, k) :: L)) : Took ks (i + 1) L' := by
  have e : ks.take (i + 1) = ks.take i ++ [(x, k)] := by rw [List.take_succ, h]; rfl
  unfold Took
  rw [e]
  rcases c with ⟨m, rfl⟩ | ⟨m, pm⟩
  · refine ⟨fun p hp => List.mem_append_left _ (g.1 p hp), fun p hp => ?_⟩
    rcases List.mem_append.mp hp with z | z
    · exact g.2 p z
    · rw [List.mem_singleton.mp z]; exact m
  · refine ⟨fun p hp => ?_, fun p hp => ((pm.map (·.2)).mem_iff).mpr ?_⟩
    · rcases List.mem_cons.mp (pm.mem_iff.mp hp) with z | z
      · rw [z]; exact List.mem_append_right _ (List.mem_singleton.mpr rfl)
      · exact List.mem_append_left _ (g.1 p z)
    · rcases List.mem_append.mp hp with z | z
      · exact List.mem_cons_of_mem _ (g.2 p z)
      · rw [List.mem_singleton.mp z]; exact List.mem_cons_self
theorem Lies.on (G : Able κ) {h h' : Heap} (R : Lies κ h a L ep t) (ha : ∀ o, h.get? a = some o → h'.get? a = some o) (ht : ∀ p ∈ L, κ.is h' p.2 p.1) : Lies κ h' a L ep t :=
  ⟨let ⟨o, z, r⟩ := R.obj; ⟨o, ha o z, r⟩, R.tab, R.nd, ht, R.led, R.room, R.few⟩
abbrev newSet (w : World) : Obj := { cls := .type "set", dict := none, data := .set #[] 0 (.fresh 0 0 (!w.params.followText "set-order")) }
theorem Lies.new {h : Heap} {a : Addr} (ho : h.get? a = some (newSet w)) : Lies κ h a [] 0 (.fresh 0 0 (!w.params.followText "set-order")) := by
  refine ⟨⟨_, ho, ⟨rfl, rfl, rfl⟩, rfl⟩, ⟨List.Pairwise.nil, rfl, rfl, .inl rfl, fun x hx => (by cases hx), fun i h j hi => (by simp [hsh] at hi)⟩, List.nodup_nil, fun p hp => (by cases hp), ?_, by show 0 * 5 < 7 * 3; decide, by show 0 < 64; decide⟩
  show _ ∨ (!w.params.followText "set-order") = true
  cases w.params.followText "set-order"
  · exact .inr rfl
  · exact .inl rfl
/-- the loop of set.update -/
theorem fill (G : Able κ) {I : Addr} {fp wr : List Addr} {Y : Array GenState → Array GenState → Prop} {n : Nat} {Pv : Nat → Value → Prop} {St : Nat → Shared → Prop} {R : Result → Shared → Prop}
    (W : WalksS P w A.in1 I fp wr Y n Pv St) (Z : Addr) (hZ : Z ∉ fp) (ks : List (Addr × K)) (hn : n = ks.length) (cap : ∀ L : List (Addr × K), (∀ p ∈ L, p ∈ ks) → (L.map (·.2)).Nodup → L.length + 1 < 64)
    (val : ∀ i v, Pv i v → ∃ p, ks[i]? = some p ∧ v = .ref p.1) (h0 : Heap) (hk : ∀ p ∈ ks, κ.is h0 p.2 p.1) (z0 : h0.get? Z = none) (w0 : ∀ b ∈ wr, h0.get? b = none) (r1 : κ.room A.in1) (r2 : κ.room A.in1.in1) :
    ∀ (m i : Nat) (s : Shared), i + m = n → St i s → (∀ b o, h0.get? b = some o → s.heap.get? b = some o) → (∃ L ep t, Lies κ s.heap Z L ep t ∧ Took ks i L) →
      (∀ s' L ep t, Moved (Z :: wr) Y s s' → Lies κ s'.heap Z L ep t → Took ks n L → (∀ b o, h0.get? b = some o → s'.heap.get? b = some o) → R (.ok (.ret .none)) s') →
      codeAny (model P w) A (.builtin "set.update.loop" ⟨[.ref Z, .ref I], []⟩) R s := by
  have zw : Z ∉ wr := fun h => hZ (W.sub _ h)
  have up : ∀ b ∈ wr, b ∈ Z :: wr := fun b hb => List.mem_cons_of_mem _ hb
  have on : ∀ {s s' : Shared}, Moved wr Y s s' → (∀ b o, h0.get? b = some o → s.heap.get? b = some o) → ∀ b o, h0.get? b = some o → s'.heap.get? b = some o := fun mv k b o e =>
    mv.heap b o (fun hb => by rw [w0 b hb] at e; cases e) (k b o e)
  have inks : ∀ {L : List (Addr × K)} {i : Nat}, Took ks i L → ∀ p ∈ L, p ∈ ks := fun g p hp => List.mem_of_mem_take (g.1 p hp)
  intro m
  induction m with
  | zero =>
    intro i s hi st k ⟨L, ep, t, hL, g⟩ hR
    obtain rfl : i = n := hi
    refine codeAny_builtin F.entry_set_update_loop ?_
    rw [Around.under_plainId F.plain_set_update_loop _]
    refine wpAny_bind (m := pyNext (.ref I)) (W.done s _ _ st fun s' mv => ?_)
    exact wpAny_pure (hR s' L ep t (mv.mono up) (hL.on G (fun o e => mv.heap Z o zw e) fun p hp => G.ext (hk p (inks g p hp)) (on mv k)) g (on mv k))
  | succ m ih =>
    intro i s hi st k ⟨L, ep, t, hL, g⟩ hR
    refine codeAny_builtin F.entry_set_update_loop ?_
    rw [Around.under_plainId F.plain_set_update_loop _]
    refine wpAny_bind (m := pyNext (.ref I)) (W.item i s _ _ (by omega) st fun v s' hv st' mv => ?_)
    obtain ⟨⟨x, q⟩, hp, rfl⟩ := val i v hv
    have k' := on mv k
    have hL' : Lies κ s'.heap Z L ep t := hL.on G (fun o e => mv.heap Z o zw e) fun p hp => G.ext (hk p (inks g p hp)) k'
    have hx : κ.is s'.heap q x := G.ext (hk _ (List.mem_of_getElem? hp)) k'
    refine wpAny_bind (m := holding [Value.ref x] (setAdd Z (.ref x))) (wpAny_holding ?_)
    unfold setAdd
    refine wpAny_holding (wpAny_bind (κ.pyHash r1 hx ?_))
    refine join1 (s := { s' with toks := s'.toks + κ.draws q }) G hL' hx r2 r1 (cap L (inks g) hL.nd) fun b h' L' ep' t' sb hL2 c => ?_
    have g' := g.step hp c
    have k2 : ∀ b o, h0.get? b = some o → h'.get? b = some o := fun b o e => (sb.2 b (fun z => by rw [z, z0] at e; cases e)).trans (k' b o e)
    refine wpAny_pure ⟨plainId_quiet F.plain_set_update_loop _, ih (i + 1) _ (by omega) (W.frame _ s' _ _ st' (Nat.le_add_right _ _) fun b hb o e => ?_) k2 ⟨L', ep', t', hL2, g'⟩ fun s'' L3 ep3 t3 mv3 hL3 g3 k3 => ?_⟩
    · exact (sb.2 b (fun h : b = Z => hZ (by rw [← h]; exact hb))).trans e
    · refine hR s'' L3 ep3 t3 (Moved.trans W.gtrans ((mv.mono up).then_heap (Nat.le_add_right _ _) fun b o hb e => ?_) mv3) hL3 g3 k3
      exact (sb.2 b (fun h : b = Z => hb (by rw [h]; exact List.mem_cons_self))).trans e
end
end L2.My
end
section
set_option Elab.async false
set_option linter.all false
set_option maxRecDepth 100000
set_option maxHeartbeats 8000000
namespace L2.My
open PySem PySem.Spec PyProof.Rows
section
variable {P : Program} {w : World} {K : Type} [DecidableEq K] {κ : HeapKind P w K}
variable {A : Around} {E : Value → Shared → Prop} {s : Shared}
/-- set(xs) of such things -/
theorem makeSet (G : Able κ) {l : Addr} {items : Array Value} (ks : List (Addr × K)) {Q : Value → Shared → Prop} (hh : A.handled = none) (hl : s.heap.IsList l items) (hit : items.toList = ks.map fun p => Value.ref p.1)
    (hk : ∀ p ∈ ks, κ.is s.heap p.2 p.1) (cap : ∀ L : List (Addr × K), (∀ p ∈ L, p ∈ ks) → (L.map (·.2)).Nodup → L.length + 1 < 64) (hr : ∀ B : Around, B.units ≤ A.units + 8 → κ.room B)
    (h : ∀ (h' : Heap) (tk : Nat) L ep t, Lies κ h' s.heap.objs.size L ep t → Took ks ks.length L → (∀ b o, s.heap.get? b = some o → h'.get? b = some o) → Q (.ref s.heap.objs.size) { s with heap := h', toks := tk }) :
    wpAny (model P w) A (call (.type "set") [.ref l]) Q E s := by
  have size : items.size = ks.length := by
    rw [← Array.length_toList, hit, List.length_map]
  obtain ⟨c, tl, mro⟩ := F.called_set.mro
  have made := F.called_set.made
  have hsub := F.called_set.sub
  refine wpAny_call (codeAny_of_tree ?_)
  change wpAny _ _ (callAny (.type "set") _) _ _ _
  refine wpAny_pure ⟨Code.quiet_builtin _ (by decide +kernel), codeAny_builtin F.entry_type_call ?_⟩
  rw [Around.under_plain (weight_type_call_type "set" [.ref l] []) rfl]
  have g1 := F.called_set.notType
  have g2 := F.called_set.canCreate
  have g3 := F.typeCall_set_1 (.ref l)
  repeat (any_goals (first | assumption | wp_step))
  refine codeAny_mono (code_set_led1 (.ref l) (E := E) (Q₁ := fun x s1 => x = .ref s.heap.objs.size ∧ s1 = { s with heap := s.heap.push (newSet w) }) ⟨rfl, rfl⟩) fun r s1 hr' => ?_
  rcases r with e | fl
  · exact hr'
  rcases fl with x | _ | _ | _
  any_goals exact hr'.elim
  obtain ⟨rfl, rfl⟩ := hr'
  have new : (s.heap.push (newSet w)).get? s.heap.objs.size = some (newSet w) := Heap.get?_push_size s.heap rfl
  have ty : Shared.TypeIs { s with heap := s.heap.push (newSet w) } (.ref s.heap.objs.size) "set" := ⟨_, new, rfl⟩
  have look := F.called_set.init.lookup
  have bound := F.called_set.init.bind (.ref s.heap.objs.size)
  repeat (any_goals (first | assumption | wp_step))
  refine codeAny_mono (codeAny_call_builtin (R := wants (fun r s2 => r = .none ∧ ∃ h' tk L ep t, s2 = { s with heap := h', toks := tk } ∧ Lies κ h' s.heap.objs.size L ep t ∧ Took ks ks.length L ∧ ∀ b o, s.heap.get? b = some o → h'.get? b = some o) E)
    F.called_set.init.plain F.entry_set_init (check_set_init_1 ty ?_)) fun r2 s2 hr2 => ?_
  · obtain ⟨⟨ocl, odi, oda, osl⟩, hol, hcl, nl, hdl⟩ := hl
    simp only at hcl hdl
    subst hcl hdl
    have hol' : (s.heap.push (newSet w)).get? l = some { cls := .type "list", dict := odi, data := .seq items nl, slots := osl } := Heap.get?_push_of_some _ hol
    have n1 := F.sub_list_set
    have n2 := F.sub_list_frozenset
    have n3 : (Value.type "list" == Value.type "dict") = false := by decide
    have hl1 : (s.heap.push (newSet w)).IsList l items := ⟨_, hol', rfl, nl, rfl⟩
    unfold Builtin.«set.__init__» noKeywords Builtin.Frozenset.updateFrom
    generalize hPI : pyIter = PI
    wp_walk
    subst hPI
    refine wpAny_pyIter_list hl1 (wpAny_bind (wpAny_runValue ?_))
    have lS : l < s.heap.objs.size := Heap.lt_size hol
    have hz : (s.heap.push (newSet w)).objs.size = s.heap.objs.size + 1 := Heap.size_push ..
    have free : ∀ b, s.heap.objs.size ≤ b → s.heap.get? b = none := fun b hb => by
      cases q : s.heap.get? b with
      | none => rfl
      | some o => exact absurd (Nat.lt_of_lt_of_le (Heap.lt_size q) hb) (Nat.lt_irrefl _)
    refine fill G ((Walks.list (by simp [hh]) _ l (by rw [hz]; exact Nat.ne_of_lt (Nat.lt_succ_of_lt lS)) items).toS) s.heap.objs.size (fun z => ?_) ks size cap (fun i v hv => ?_) s.heap hk (free _ (Nat.le_refl _))
      (fun b hb => free b (by rw [List.mem_singleton.mp hb, hz]; exact Nat.le_succ _)) (hr _ ?_) (hr _ ?_) items.size 0 _ (Nat.zero_add _) ⟨⟨_, Heap.get?_push_size _ rfl, rfl, rfl⟩, (hl1.push _)⟩ (fun b o e => Heap.get?_push_of_some _ (Heap.get?_push_of_some _ e)) ?_ ?_
    · simp only [List.mem_cons, List.mem_singleton, List.not_mem_nil, or_false] at z
      rcases z with z | z
      · rw [hz] at z; exact absurd z (Nat.ne_of_lt (Nat.lt_succ_self _))
      · exact absurd z.symm (Nat.ne_of_lt lS)
    · have q : items.toList[i]? = some v := by rw [Array.getElem?_toList]; exact hv
      rw [hit, List.getElem?_map] at q
      cases hq : ks[i]? with
      | none => rw [hq] at q; cases q
      | some p => rw [hq] at q; exact ⟨p, rfl, (Option.some.inj q).symm⟩
    · have e : ∀ B : Around, B.in1.units = B.units + 1 := fun _ => rfl
      simp only [e]
      omega
    · have e : ∀ B : Around, B.in1.units = B.units + 1 := fun _ => rfl
      simp only [e]
      omega
    · exact ⟨[], 0, _, Lies.new (Heap.get?_push_of_some _ new), fun p hp => (by cases hp), fun p hp => (by simp at hp)⟩
    · rintro ⟨h', g2, d', tk', os'⟩ L ep t mv hL g k
      obtain rfl : g2 = s.gens := mv.gens
      obtain rfl : d' = s.drawn := mv.drawn
      obtain rfl : os' = s.os := mv.os
      refine wpAny_pure ?_
      rw [size] at g
      show wpAny _ _ (ret Value.none) _ _ _
      exact wpAny_pure ⟨rfl, h', tk', L, ep, t, rfl, hL, g, k⟩
  · rcases r2 with e | fl
    · exact hr2
    rcases fl with x | _ | _ | _
    any_goals exact hr2.elim
    obtain ⟨rfl, h', tk, L, ep, t, rfl, hL, g, k⟩ := hr2
    repeat (any_goals (first | assumption | wp_step))
    exact h _ _ _ _ _ hL g k
end
end L2.My
end
section
set_option Elab.async false
set_option linter.all false
set_option maxRecDepth 100000
set_option maxHeartbeats 8000000
namespace L2.My
open PySem PySem.Spec PyProof.Rows
/-! ### tuples that are led by a text, then ints: their order -/
abbrev OI := Int ⊕ List Nat
/-- the key as the library's order sees it -/
def oK : Key → OI
  | .inl i => .inl i
  | .inr x => .inr x.cps.toList
theorem oK_inj {a b : Key} (h : oK a = oK b) : a = b := by
  cases a <;> cases b <;> simp only [oK] at h
  · exact congrArg _ (Sum.inl.inj h)
  · cases h
  · cases h
  · rename_i x y
    have e : x.cps = y.cps := Array.toList_inj.mp (Sum.inr.inj h)
    cases x; cases y
    simp only at e
    rw [e]
theorem oKs_inj : ∀ {a b : List Key}, a.map oK = b.map oK → a = b
  | [], [], _ => rfl
  | x :: a, y :: b, h => by
    rw [List.map_cons, List.map_cons] at h
    obtain ⟨h1, h2⟩ := List.cons.inj h
    rw [oK_inj h1, oKs_inj h2]
/-- a text first, then ints alone -/
def led : Nat → Bool := fun i => i == 0
def Shp (f : List Key) : Prop := ∃ (z : Str) (is : List Int), f = .inr z :: is.map .inl
def ltF (f g : List Key) : Bool := lexLt itemOrd (f.map oK) (g.map oK)
theorem ltF_irr (f : List Key) : ltF f f = false := lex_irrefl _
theorem ltF_tr {f g h : List Key} (a : ltF f g = true) (b : ltF g h = true) : ltF f h = true := lex_trans _ _ _ a b
theorem ltF_tot {f g : List Key} (a : ltF f g = false) (b : ltF g f = false) : f = g := oKs_inj (lex_total _ _ a b)
theorem ltF_as {f g : List Key} (a : ltF f g = true) : ltF g f = false := by
  cases h : ltF g f with
  | false => rfl
  | true =>
    have z := ltF_tr a h
    rw [ltF_irr] at z
    cases z
theorem ltF_ntr {f g h : List Key} (a : ltF g f = false) (b : ltF h g = false) : ltF h f = false := by
  cases z : ltF h f with
  | false => rfl
  | true =>
    rcases lex_negTrans (O := itemOrd) _ (g.map oK) _ z with q | q
    · rw [show ltF h g = true from q] at b; cases b
    · rw [show ltF g f = true from q] at a; cases a
section
variable {prog : Program} {w : World} {A : Around} {E : Value → Shared → Prop} {s : Shared}
theorem mixShape {k : Key} {v : Value} (h : (mixKind prog w).is k v = true) : (∃ i t, k = Sum.inl i ∧ v = Value.int i t) ∨ (∃ x t, k = Sum.inr x ∧ v = Value.str x t) := keyIs_shape (k := k) (v := v) h
theorem items_led {i : Nat} (hi : 0 < i) : ∀ {is : List Int} {vs : List Value}, ItemsAre (mixKind prog w) (is.map Sum.inl) vs → tupItems led i vs = some (is.map Sum.inl)
  | [], _, .nil => by simp [tupItems]
  | n :: is, _, .cons h r => by
    rcases mixShape h with ⟨j, t, e, rfl⟩ | ⟨x, t, e, rfl⟩
    · cases e
      have z := items_led (i := i + 1) (by omega) r
      simp only [tupItems]
      rw [if_neg (by unfold led; simp; omega), z]
      rfl
    · cases e
theorem key_led {h : Heap} {f : List Key} {b : Addr} (hf : Shp f) (hk : IsTupleKey (mixKind prog w) h f b) : tupKey h led (.ref b) = some (f.map oK) := by
  obtain ⟨z, is, rfl⟩ := hf
  obtain ⟨o, xs, n, ho, hc, hd, hi⟩ := hk
  simp only [tupKey, ho, hd]
  generalize xs.toList = vs at hi
  cases hi with
  | cons h1 r =>
    rcases mixShape h1 with ⟨j, t, e, rfl⟩ | ⟨x, t, e, rfl⟩
    · cases e
    · cases e
      simp only [tupItems]
      rw [if_pos (by rfl), items_led (by decide) r]
      simp [oK, Function.comp_def]
/-- the key of a value, by a choice -/
theorem facts_sortable {a : Addr} {vs : List Value} {k : Value → List Key} (h2 : 2 ≤ vs.length) (hv : ∀ v ∈ vs, ∃ b, v = .ref b ∧ Shp (k v) ∧ IsTupleKey (mixKind prog w) s.heap (k v) b) (ha : ∀ o, s.heap.get? a = some o → o.cls ≠ .type "tuple") :
    SrtO.SortableO prog w A s a vs fun v u => ltF (k v) (k u) := by
  intro h' keep
  have hv' : ∀ v ∈ vs, ∃ b, v = .ref b ∧ Shp (k v) ∧ IsTupleKey (mixKind prog w) h' (k v) b := fun v m => by
    obtain ⟨b, e, sh, o, xs, n, ho, hc, r⟩ := hv v m
    exact ⟨b, e, sh, o, xs, n, keep b o (fun z => ha o (by rw [← z]; exact ho) hc) ho, hc, r⟩
  refine ⟨tuples' true, fun Q E hq => ?_, ?_⟩
  · have tup : ∀ us : List Value, (∀ v ∈ us, v ∈ vs) → ∃ fs, TupsOf h' led us fs ∧ fs.length = us.length := fun us => by
      induction us with
      | nil => exact fun _ => ⟨[], .nil, rfl⟩
      | cons v us ih =>
        intro hm
        obtain ⟨fs, t, l⟩ := ih fun u hu => hm u (List.mem_cons_of_mem _ hu)
        obtain ⟨b, e, ⟨z, is, e2⟩, o, xs, n, ho, hc, hd, hi⟩ := hv' v (hm v List.mem_cons_self)
        rw [e2] at hi
        obtain ⟨y, ys, exs⟩ : ∃ y ys, xs.toList = y :: ys := by
          cases q : xs.toList with
          | nil => rw [q] at hi; cases hi
          | cons y ys => exact ⟨y, ys, rfl⟩
        rw [exs] at hi
        cases hi with
        | cons h1 r =>
          refine ⟨y :: fs, .cons ⟨b, o, xs, n, e, ho, hc, hd, ?_, fun q => (by cases q), fun _ => ?_⟩ t, by rw [List.length_cons, List.length_cons, l]⟩
          · have z := congrArg (fun l : List Value => l[0]?) exs
            simpa using z
          · rcases mixShape h1 with ⟨j, t, e, rfl⟩ | ⟨x, t, e, rfl⟩
            · cases e
            · exact ⟨x, t, rfl⟩
    obtain ⟨fs, t, l⟩ := tup vs fun v m => m
    exact tup_kind (shape := led) (by omega) t hq
  · intro p q hp hq
    obtain ⟨b, e, sh, hk⟩ := hv' p.1 hp
    obtain ⟨b', e', sh', hk'⟩ := hv' q.1 hq
    refine tup_ltAt (shape := led) true A _ p.1 q.1 ((k p.1).map oK) ((k q.1).map oK) ?_ ?_ ?_
    · rw [e] at sh hk ⊢; exact key_led sh hk
    · rw [e'] at sh' hk' ⊢; exact key_led sh' hk'
    · exact ⟨rfl, rfl⟩
theorem facts_swo (k : Value → List Key) : SrtO.Swo fun v u => ltF (k v) (k u) := ⟨fun x y h => ltF_as h, fun x y z a b => ltF_ntr a b⟩
end
end L2.My
end
section
set_option Elab.async false
set_option linter.all false
set_option maxRecDepth 100000
set_option maxHeartbeats 8000000
namespace L2.My
open PySem PySem.Spec PyProof.Rows
abbrev MK (P : Program) (w : World) : HeapKind P w (List Key) := tupleKind (mixKind P w)
section
variable {P : Program} {w : World}
theorem mix_cls {v : Value} {k : Key} (h : (mixKind P w).is k v = true) (n : Nat) : ofAClassStatement n v = pure false ∧ ∃ b, hashByValue n v = pure b := by
  rcases mixShape h with ⟨i, t, _, rfl⟩ | ⟨x, t, _, rfl⟩ <;> cases n <;> exact ⟨rfl, _, rfl⟩
theorem mix_items {f : List Key} {vs : List Value} (h : ItemsAre (mixKind P w) f vs) : ∀ v ∈ vs, ∃ k, (mixKind P w).is k v = true := by
  induction h with
  | nil => exact fun v hv => nomatch hv
  | cons h1 _ ih =>
    intro v hv
    rcases List.mem_cons.mp hv with rfl | hv
    · exact ⟨_, h1⟩
    · exact ih v hv
theorem mk_able : Able (MK P w) where
  cls := fun {A E s k b Q} hk h => by
    have ty := IsTupleKey.typeIs hk
    obtain ⟨o, items, n, ho, _, hd, hi⟩ := hk
    unfold ofAClassStatement
    refine wpAny_bind (wpAny_typeOf ty ?_)
    have e : (("tuple" : String) == "tuple") = true := by decide
    simp only [e, if_true, Bool.not_true, Bool.false_eq_true, if_false]
    try refine wpAny_bind (wpAny_pure ?_)
    try simp only [Bool.not_true, Bool.false_eq_true, if_false]
    change wpAny _ _ (seqItems? (.ref b) >>= _) _ _ s
    refine wpAny_bind (wpAny_seqItems ho hd ?_)
    dsimp only
    refine wpAny_bind ?_
    change wpAny _ _ (forIn items _ _) _ _ s
    rw [← Array.forIn_toList]
    refine wpAny_forIn_list _ (fun l r s' => (r.1 = none ∧ s' = s) ∧ ∀ v ∈ l, ∃ k, (mixKind P w).is k v = true) _ ?_ ?_ _ _ ⟨⟨rfl, rfl⟩, mix_items hi⟩
    · rintro v l r s' ⟨⟨e1, e2⟩, H⟩
      obtain ⟨k, hk⟩ := H v List.mem_cons_self
      rw [(mix_cls hk _).1]
      refine wpAny_bind (wpAny_pure ?_)
      simp only [Bool.false_eq_true, if_false]
      exact wpAny_pure ⟨⟨rfl, e2⟩, fun u hu => H u (List.mem_cons_of_mem _ hu)⟩
    · rintro ⟨r1, r2⟩ s' ⟨⟨e1, e2⟩, _⟩
      subst e2
      cases e1
      exact wpAny_pure h
  byv := fun {A E s k b Q} hk h => by
    have ty := IsTupleKey.typeIs hk
    obtain ⟨o, items, n, ho, _, hd, hi⟩ := hk
    unfold hashByValue
    refine wpAny_bind (wpAny_specialOf ty F.slot_tuple_hash.lookup ?_)
    change wpAny _ _ (seqItems? (.ref b) >>= _) _ _ s
    refine wpAny_bind (wpAny_seqItems ho hd (wpAny_bind ?_))
    change wpAny _ _ (forIn items _ _) _ _ s
    rw [← Array.forIn_toList]
    refine wpAny_forIn_list _ (fun l r s' => ((r.1 = none ∨ ∃ b, r.1 = some b) ∧ s' = s) ∧ ∀ v ∈ l, ∃ k, (mixKind P w).is k v = true) _ ?_ ?_ _ _ ⟨⟨.inl rfl, rfl⟩, mix_items hi⟩
    · rintro v l r s' ⟨⟨e1, e2⟩, H⟩
      obtain ⟨k, hk⟩ := H v List.mem_cons_self
      obtain ⟨b, hb⟩ := (mix_cls hk 7).2
      rw [hb]
      refine wpAny_bind (wpAny_pure ?_)
      cases b
      · simp only [Bool.not_false, if_true]
        subst e2
        exact wpAny_pure (wpAny_pure (h false))
      · simp only [Bool.not_true, Bool.false_eq_true, if_false]
        exact wpAny_pure ⟨⟨.inl rfl, e2⟩, fun u hu => H u (List.mem_cons_of_mem _ hu)⟩
    · rintro ⟨r1, r2⟩ s' ⟨⟨e1, e2⟩, _⟩
      subst e2
      rcases e1 with e1 | ⟨b, e1⟩
      · cases e1
        exact wpAny_pure (h _)
      · cases e1
        exact wpAny_pure (h _)
  keep := fun {h h' k b d o es ep t} hk ho hd hs => by
    obtain ⟨o', items, n, ho', hc, hd', hi⟩ := hk
    have ne : b ≠ d := fun e => by
      subst e
      rw [ho] at ho'
      cases ho'
      rw [hd] at hd'
      cases hd'
    exact ⟨o', items, n, (hs.2 b ne).trans ho', hc, hd', hi⟩
  ext := fun {h h' k b} hk q => by
    obtain ⟨o, items, n, ho, r⟩ := hk
    exact ⟨o, items, n, q b o ho, r⟩
end
/-! ### sorted, of whatever gives tuples that are led by a text -/
def Fac (P : Program) (w : World) (h : Heap) (k : Value → List Key) (v : Value) : Prop := ∃ b, v = .ref b ∧ Shp (k v) ∧ IsTupleKey (mixKind P w) h (k v) b
section
variable {prog : Program} {w : World} {A : Around} {E : Value → Shared → Prop} {s : Shared}
theorem sorted_core {x : Value} {k : Value → List Key} {R : Shared → Prop} {Vs : List Value → Prop} {Q : Value → Shared → Prop}
    (hc : ∀ (Q' : List Value → Shared → Prop), (∀ s1 vs, (∀ b o, s.heap.get? b = some o → s1.heap.get? b = some o) → R s1 → Vs vs → Q' vs s1) → wpAny (model prog w) A.in1 (collect x) Q' E s)
    (hV : ∀ vs, Vs vs → vs.length ≤ sizeLine ∧ ∀ v ∈ vs, Fac prog w s.heap k v)
    (h : ∀ s1 h2 p vs (out : List Value) c, (∀ b o, s.heap.get? b = some o → s1.heap.get? b = some o) → R s1 → (∀ b o, s1.heap.get? b = some o → h2.get? b = some o) → s1.heap.objs.size ≤ p → h2.get? p = some (seqObj "list" out.toArray c) → Vs vs →
      SrtO.Srtd (fun v u => ltF (k v) (k u)) out → out.Perm vs → Q (.ref p) { s1 with heap := h2 }) : wpAny (model prog w) A (call (.builtin "sorted") [x]) Q E s := by
  refine Calls.call_function_entry PyProof.Rows.kind_sorted PyProof.Rows.plain_sorted PyProof.Rows.entry_sorted (PyProof.Rows.args_sorted1 _) ?_
  unfold Builtin.«sorted»
  refine wpAny_bind (m := checkCount "sorted" 1 1 _) (wpAny_pure (wpAny_bind (hc _ fun s1 vs k1 r1 hvs => ?_)))
  obtain ⟨hl, hf⟩ := hV vs hvs
  refine wpAny_bind (wpAny_newList ?_ hl)
  have hoL : (s1.heap.push (seqObj "list" vs.toArray 0)).get? s1.heap.objs.size = some (seqObj "list" vs.toArray 0) := Heap.get?_push_size _ rfl
  have k2 : ∀ b o, s.heap.get? b = some o → (s1.heap.push (seqObj "list" vs.toArray 0)).get? b = some o := fun b o e => Heap.get?_push_of_some _ (k1 b o e)
  have fac : ∀ v ∈ vs, ∃ b, v = .ref b ∧ Shp (k v) ∧ IsTupleKey (mixKind prog w) (s1.heap.push (seqObj "list" vs.toArray 0)) (k v) b := fun v hv => by
    obtain ⟨b, e, sh, kk⟩ := hf v hv
    exact ⟨b, e, sh, (mk_able (P := prog) (w := w)).ext kk k2⟩
  refine wpAny_bind (wpAny_holding (wpAny_call_entry PyProof.Rows.slot_list_sort ⟨_, hoL, rfl⟩ PyProof.Rows.entry_list_sort (SrtO.list_sort_ord (s := { s1 with heap := s1.heap.push (seqObj "list" vs.toArray 0) }) (facts_swo k) hoL hl
    (fun h2 => facts_sortable h2 fac fun o e => ?_) fun out h1 h2 => ⟨_, rfl, ?_⟩) (PyProof.Rows.args_list_sort _)))
  · rw [hoL] at e
    cases e
    intro c
    exact absurd (Value.type.inj c) (by decide)
  · obtain ⟨c, hc'⟩ := PyProof.Rows.sortedHeap_at (vs := vs) (out := out.toArray) hoL
    refine wpAny_pure ⟨_, rfl, h s1 _ s1.heap.objs.size vs out c k1 r1 (fun b o e => ?_) (Nat.le_refl _) hc' hvs h1 h2.perm⟩
    have hb : b < s1.heap.objs.size := Heap.lt_size e
    rw [PyProof.Rows.sortedHeap_old (Nat.ne_of_lt hb) (by rw [size_push']; exact Nat.lt_succ_of_lt hb)]
    exact Heap.get?_push_of_some _ e
end
end L2.My
end
section
set_option Elab.async false
set_option linter.all false
set_option maxRecDepth 100000
set_option maxHeartbeats 8000000
namespace L2.My
open PySem PySem.Spec PyProof.Rows
/-- a tuple of ints and texts -/
abbrev TupAt (H : Hp) (b : Addr) (f : List Key) : Prop := H b = some (.tup (f.map kV))
theorem few_of {α : Type} [DecidableEq α] : ∀ (l D : List α), l.Nodup → (∀ x ∈ l, x ∈ D) → l.length ≤ D.length
  | [], _, _, _ => Nat.zero_le _
  | x :: l, D, h, hD => by
    obtain ⟨h1, h2⟩ := List.nodup_cons.mp h
    have hx := hD x List.mem_cons_self
    have z := few_of l (D.erase x) h2 fun y hy => (List.mem_erase_of_ne (fun e => h1 (by rw [← e]; exact hy))).mpr (hD y (List.mem_cons_of_mem _ hy))
    rw [List.length_erase_of_mem hx] at z
    have := List.length_pos_of_mem hx
    simp only [List.length_cons]
    omega
/-- the key that a value has at a heap -/
noncomputable def keyOn (P : Program) (w : World) (h : Heap) (v : Value) : List Key := open Classical in if q : ∃ f b, v = .ref b ∧ IsTupleKey (mixKind P w) h f b then q.choose else []
theorem keyOn_eq {P : Program} {w : World} {h : Heap} {b : Addr} {f : List Key} (x : IsTupleKey (mixKind P w) h f b) : keyOn P w h (.ref b) = f := by
  have q : ∃ f b', Value.ref b = .ref b' ∧ IsTupleKey (mixKind P w) h f b' := ⟨f, b, rfl, x⟩
  unfold keyOn
  rw [dif_pos q]
  obtain ⟨b', e, y⟩ := q.choose_spec
  cases e
  exact y.inj x
def adr : Value → Addr
  | .ref b => b
  | _ => 0
theorem adr_ref (bs : List Addr) : (bs.map Value.ref).map adr = bs := by
  induction bs with
  | nil => rfl
  | cons b bs ih => rw [List.map_cons, List.map_cons, ih]; rfl
theorem refs_adr {out : List Value} (h : ∀ v ∈ out, ∃ b, v = .ref b) : out = (out.map adr).map Value.ref := by
  induction out with
  | nil => rfl
  | cons v out ih =>
    obtain ⟨b, rfl⟩ := h v List.mem_cons_self
    rw [List.map_cons, List.map_cons, ← ih fun u hu => h u (List.mem_cons_of_mem _ hu)]
    rfl
section
variable {X : Cx} {pins : List (Addr × Obj)} {σ : St} {H : Hp} {s : Shared} {A : Around} {E : Value → Shared → Prop}
theorem fac_of (I : Inv X pins σ H s) {b : Addr} {f : List Key} (h : TupAt H b f) (sh : Shp f) : Fac X.prog X.w s.heap (keyOn X.prog X.w s.heap) (.ref b) ∧ keyOn X.prog X.w s.heap (.ref b) = f := by
  have k := key_of I.hok h
  have e := keyOn_eq k
  exact ⟨⟨b, rfl, by rw [e]; exact sh, by rw [e]; exact k⟩, e⟩
/-- sorted of what gives these tuples, in any order -/
theorem sorted_rule (I : Inv X pins σ H s) {x : Value} {bs : List Addr} {R : Shared → Prop} {Q : VK} (hz : bs.length ≤ sizeLine) (key : Addr → List Key) (hk : ∀ b ∈ bs, TupAt H b (key b) ∧ Shp (key b))
    (hc : ∀ (Q' : List Value → Shared → Prop), (∀ s1 vs, (∀ b o, s.heap.get? b = some o → s1.heap.get? b = some o) → R s1 → vs.Perm (bs.map Value.ref) → Q' vs s1) → wpAny (model X.prog X.w) A.in1 (collect x) Q' E s)
    (inv : ∀ s1 h2 p (xs : List V) (its : List Value) c, (∀ b o, s.heap.get? b = some o → s1.heap.get? b = some o) → R s1 → (∀ b o, s1.heap.get? b = some o → h2.get? b = some o) → s1.heap.objs.size ≤ p → xs.length ≤ sizeLine → Vals xs its → h2.get? p = some (seqObj "list" its.toArray c) →
      H p = none ∧ Inv X pins σ (upd H p (.lst xs)) { s1 with heap := h2 })
    (q : ∀ (bs' : List Addr) (p : Addr), bs'.Perm bs → (bs'.map key).Pairwise (fun f g => ltF g f = false) → H p = none → Q (.ref p) (upd H p (.lst (bs'.map V.ref)))) :
    wpAny (model X.prog X.w) A (call (.builtin "sorted") [x]) (fun v s' => ∃ y H', Inv X pins σ H' s' ∧ RelV y v ∧ Q y H') E s := by
  have ke : ∀ b ∈ bs, keyOn X.prog X.w s.heap (.ref b) = key b := fun b hb => (fac_of I (hk b hb).1 (hk b hb).2).2
  refine sorted_core (k := keyOn X.prog X.w s.heap) (Vs := fun vs => vs.Perm (bs.map Value.ref)) hc (fun vs hvs => ⟨by rw [hvs.length_eq, List.length_map]; exact hz, fun v hv => ?_⟩) fun s1 h2 p vs out c k1 r1 k2 hp hat hvs h1 h2 => ?_
  · obtain ⟨b, hb, rfl⟩ := List.mem_map.mp (hvs.mem_iff.mp hv)
    exact (fac_of I (hk b hb).1 (hk b hb).2).1
  · have hall : ∀ v ∈ out, ∃ b, v = .ref b := fun v hv => by
      obtain ⟨b, _, e⟩ := List.mem_map.mp (hvs.mem_iff.mp (h2.mem_iff.mp hv))
      exact ⟨b, e.symm⟩
    have eo := refs_adr hall
    have perm : (out.map adr).Perm bs := by
      have z := (h2.trans hvs).map adr
      rw [adr_ref] at z
      exact z
    generalize out.map adr = bs' at eo perm
    subst eo
    obtain ⟨hn, J⟩ := inv s1 _ p (bs'.map V.ref) (bs'.map Value.ref) c k1 r1 k2 hp (by rw [List.length_map, perm.length_eq]; exact hz) (vals_refs bs') hat
    refine ⟨.ref p, _, J, rfl, q bs' p perm ?_ hn⟩
    refine List.pairwise_map.mpr (List.Pairwise.imp_of_mem (fun {a b} ha hb z => ?_) (List.pairwise_map.mp h1))
    have z' : ltF (keyOn X.prog X.w s.heap (.ref b)) (keyOn X.prog X.w s.heap (.ref a)) = false := z
    rw [ke a (perm.mem_iff.mp ha), ke b (perm.mem_iff.mp hb)] at z'
    exact z'
end
end L2.My
end
section
set_option Elab.async false
set_option linter.all false
set_option maxRecDepth 100000
set_option maxHeartbeats 8000000
namespace L2.My
open PySem PySem.Spec PyProof.Rows
def unV : V → Option Key
  | .int i => some (.inl i)
  | .str x => some (.inr x)
  | _ => none
def keyH (H : Hp) (b : Addr) : List Key := match H b with
  | some (.tup xs) => xs.filterMap unV
  | _ => []
theorem keyH_eq {H : Hp} {b : Addr} {f : List Key} (h : TupAt H b f) : keyH H b = f := by
  unfold keyH
  rw [show H b = some (.tup (f.map kV)) from h]
  show (f.map kV).filterMap unV = f
  rw [List.filterMap_map]
  have e : (unV ∘ kV) = some := funext fun k => by cases k <;> rfl
  rw [e, List.filterMap_some]
abbrev UpF (fs : List (List Key)) : Prop := fs.Pairwise fun f g => ltF g f = false
theorem keysH {H : Hp} {bs : List Addr} {fs : List (List Key)} (h : Paired (TupAt H) bs fs) : bs.map (keyH H) = fs := by
  induction h with
  | nil => rfl
  | cons h1 _ ih => rw [List.map_cons, keyH_eq h1, ih]
theorem pairH {H : Hp} {bs : List Addr} (h : ∀ b ∈ bs, TupAt H b (keyH H b)) : Paired (TupAt H) bs (bs.map (keyH H)) := by
  induction bs with
  | nil => exact .nil
  | cons b bs ih => exact .cons (h b List.mem_cons_self) (ih fun c hc => h c (List.mem_cons_of_mem _ hc))
theorem inH {H : Hp} {bs : List Addr} {fs : List (List Key)} (h : Paired (TupAt H) bs fs) : ∀ b ∈ bs, TupAt H b (keyH H b) ∧ keyH H b ∈ fs := by
  induction h with
  | nil => exact fun b hb => nomatch hb
  | cons h1 _ ih =>
    intro b hb
    rcases List.mem_cons.mp hb with rfl | hb
    · rw [keyH_eq h1]; exact ⟨h1, List.mem_cons_self⟩
    · exact ⟨(ih b hb).1, List.mem_cons_of_mem _ (ih b hb).2⟩
/-- what is told of a sorted list of tuples -/
def SortQ (H : Hp) (fs : List (List Key)) (Q : VK) : Prop := ∀ (bs' : List Addr) (fs' : List (List Key)) (p : Addr), Paired (TupAt H) bs' fs' → fs'.Perm fs → UpF fs' → H p = none → Q (.ref p) (upd H p (.lst (bs'.map V.ref)))
theorem sortQ_of {H : Hp} {bs : List Addr} {fs : List (List Key)} {Q : VK} (h : Paired (TupAt H) bs fs) (q : SortQ H fs Q) (bs' : List Addr) (p : Addr) (hp : bs'.Perm bs) (hu : (bs'.map (keyH H)).Pairwise (fun f g => ltF g f = false)) (hn : H p = none) :
    Q (.ref p) (upd H p (.lst (bs'.map V.ref))) := by
  refine q bs' (bs'.map (keyH H)) p (pairH fun b hb => (inH h b (hp.mem_iff.mp hb)).1) ?_ hu hn
  have z := hp.map (keyH H)
  rw [keysH h] at z
  exact z
theorem paired_len {α β : Type} {R : α → β → Prop} {xs : List α} {ys : List β} (h : Paired R xs ys) : xs.length = ys.length := Paired.length h
section
variable {X : Cx}
/-- sorted(xs), xs a list of tuples that are led by a text -/
def rSortLT (K : PySem.W.Frag) : List V → Hp → VK → Prop := fun vs H Q => ∃ (a : Addr) (bs : List Addr) (fs : List (List Key)), vs = [V.ref a] ∧ SqL K H a (bs.map V.ref) ∧ Paired (TupAt H) bs fs ∧ (∀ f ∈ fs, Shp f) ∧ SortQ H fs Q
theorem cr_sortLT : CallR X (.builtin "sorted") (rSortLT X.K) := by
  intro pins s σ H vs us Q I r h
  obtain ⟨a, bs, fs, rfl, hs, hp, sh, q⟩ := h
  obtain ⟨its, rv, hl, hz⟩ := I.list hs
  rw [Vals.ref1 r]
  have e : its = bs.map Value.ref := by
    clear hs hp q hl hz
    induction bs generalizing its with
    | nil => cases rv; rfl
    | cons b bs ih =>
      rw [List.map_cons] at rv
      cases rv with
      | cons r1 r2 => rw [ih _ r2, show _ = _ from r1, List.map_cons]
  subst e
  rw [List.length_map] at hz
  refine sorted_rule (R := fun s1 => ∃ h' tk, s1 = { s with heap := h', toks := tk } ∧ s.heap.objs.size ≤ h'.objs.size) I hz (keyH H) (fun b hb => ⟨(inH hp b hb).1, sh _ (inH hp b hb).2⟩) (fun Q' z => ?_) (fun s1 h2 p xs its c k1 r1 k2 hp hz2 hv hg => ?_) (sortQ_of hp q)
  · refine collect_list hl.isList ?_ (by rw [List.length_map]; exact hz)
    refine z _ _ (fun b o e => ?_) ⟨_, _, rfl, ?_⟩ (.refl _)
    · show ((s.heap.push (seqObj "list" #[] 0)).update s.heap.objs.size _).get? b = some o
      rw [Heap.get?_update_ne _ _ _ _ (Nat.ne_of_lt (Heap.lt_size e))]
      exact Heap.get?_push_of_some _ e
    · rw [Heap.size_update, size_push']; exact Nat.le_succ _
  · obtain ⟨h', tk, rfl, hz3⟩ := r1
    have hsz : s.heap.objs.size ≤ p := Nat.le_trans hz3 hp
    exact ⟨I.hok.fresh hsz, I.laid (t' := tk) (fun b o e => k2 b o (k1 b o e)) hsz ⟨hz2, its, c, hv, hg⟩⟩
/-- sorted(d), d a dict whose keys are such tuples -/
def rSortDT : List V → Hp → VK → Prop := fun vs H Q => ∃ (a : Addr) (kvs : List (List Key × V)), vs = [V.ref a] ∧ Rd H a (.dT kvs) ∧ (∀ f ∈ kvs.map (·.1), Shp f) ∧ SortQ H (kvs.map (·.1)) Q
theorem cr_sortDT (hc : X.calm = true) : CallR X (.builtin "sorted") rSortDT := by
  intro pins s σ H vs us Q I r h
  obtain ⟨a, kvs, rfl, hd, sh, q⟩ := h
  rw [Vals.ref1 r]
  obtain ⟨z, hs, ks, pr, o, es, ep, ho, hx, hdt, he, hn⟩ := (show ObjOk X.prog X.w H s.heap a (.dT kvs) from hd.ok I.hok)
  have l1 : es.size = ks.length := by rw [← Array.length_toList, he, List.length_map]
  have l2 : kvs.length = ks.length := Paired.length pr
  have prs : Paired (TupAt H) (ks.map (·.2.1)) (kvs.map (·.1)) := by
    clear sh q hd z he hn l1 l2
    induction pr with
    | nil => exact .nil
    | cons h1 _ ih => exact .cons h1.2.1 ih
  refine sorted_rule (R := fun s1 => ∃ h' tk, s1 = { s with heap := h', toks := tk }) I (bs := ks.map (·.2.1)) (by rw [List.length_map]; omega) (keyH H) (fun b hb => ⟨(inH prs b hb).1, sh _ (inH prs b hb).2⟩) (fun Q' zz => ?_) (fun s1 h2 p xs its c k1 r1 k2 hp hz2 hv hg => ?_) (sortQ_of prs q)
  · refine PySem.W.kdu_collect (kdl_raw hs hx hdt) (I.ok.hd hc) ho (by omega) fun h' tk acc kp it => ?_
    refine zz _ _ kp ⟨h', tk, rfl⟩ ?_
    have ea : acc.toList = (ks.map (·.2.1)).map Value.ref := by
      rw [List.map_map]
      refine List.ext_getElem? fun j => ?_
      rw [List.getElem?_map]
      have hes : es[j]? = (ks[j]?).map (entryOfKey (tupleKind (mixKind X.prog X.w))) := by rw [← Array.getElem?_toList, he, List.getElem?_map]
      cases hj : acc.toList[j]? with
      | none =>
        have z1 := List.getElem?_eq_none_iff.mp hj
        rw [Array.length_toList, it.1, l1] at z1
        rw [List.getElem?_eq_none z1]
        rfl
      | some v =>
        obtain ⟨en, hen, rfl⟩ := it.2 j v (by rw [← Array.getElem?_toList]; exact hj)
        rw [hes] at hen
        cases hb : ks[j]? with
        | none => rw [hb] at hen; cases hen
        | some b => rw [hb] at hen; cases hen; rfl
    rw [ea]
  · obtain ⟨h', tk, rfl⟩ := r1
    have I1 : Inv X pins σ H { s with heap := h', toks := tk } := I.kept k1
    exact ⟨I1.hok.fresh hp, I1.laid (t' := tk) k2 hp ⟨hz2, its, c, hv, hg⟩⟩
end
/-! ### the set -/
structure Lies0 (P : Program) (w : World) (h : Heap) (a : Addr) (L : List (Addr × List Key)) : Prop where
  ex : ∃ ep t, (∃ o, h.get? a = some o ∧ o.ExactSet ∧ o.data = .set (ent (MK P w) L).toArray ep t) ∧ TabOk t (hsh (MK P w) L) ∧ (L.map (·.2)).Nodup ∧ (w.params.followText "set-order" = true ∨ t.led = true) ∧ L.length * 5 < t.mask * 3 ∧ L.length < 64
def SetF (P : Program) (w : World) (a : Addr) (L : List (Addr × List Key)) : HO := .ext fun h => Lies0 P w h a L
section
variable {X : Cx}
def rSetF (K : PySem.W.Frag) (P : Program) (w : World) : List V → Hp → VK → Prop := fun xs H Q => ∃ (l : Addr) (bs : List Addr) (fs D : List (List Key)), xs = [V.ref l] ∧ SqL K H l (bs.map V.ref) ∧ Paired (TupAt H) bs fs ∧ (∀ f ∈ fs, f ∈ D) ∧ D.length + 1 < 64 ∧
  ∀ a L, H a = none → (∀ p ∈ L, TupAt H p.1 p.2 ∧ p.2 ∈ fs) → (∀ f ∈ fs, f ∈ L.map (·.2)) → (L.map (·.2)).Nodup → Q (.ref a) (upd H a (SetF P w a L))
theorem cr_setF (hc : X.calm = true) (hu : X.A.units + 64 < cLine) : CallR X (.type "set") (rSetF X.K X.prog X.w) := by
  intro pins s σ H xs us Q I r h
  obtain ⟨l, bs, fs, D, rfl, hl, hp, hD, hf, q⟩ := h
  rw [Vals.ref1 r]
  obtain ⟨its, rv, pl, hz⟩ := I.list hl
  have e : its = bs.map Value.ref := by
    clear hl hp q pl hz
    induction bs generalizing its with
    | nil => cases rv; rfl
    | cons b bs ih =>
      rw [List.map_cons] at rv
      cases rv with
      | cons r1 r2 => rw [ih _ r2, show _ = _ from r1, List.map_cons]
  subst e
  have hn : H s.heap.objs.size = none := I.hok.fresh (Nat.le_refl _)
  have good : ∀ p ∈ bs.map fun b => (b, keyH H b), TupAt H p.1 p.2 ∧ p.2 ∈ fs := fun p hpm => by
    obtain ⟨b, hb, rfl⟩ := List.mem_map.mp hpm
    exact inH hp b hb
  refine makeSet (mk_able (P := X.prog) (w := X.w)) (bs.map fun b => (b, keyH H b)) (I.ok.hd hc) pl.isList (by simp) (fun p hpm => key_of I.hok (good p hpm).1) (fun L hL nd => ?_) (fun B hB => (by show B.units < cLine; omega)) fun h' tk L ep t R g k => ?_
  · have z := few_of (L.map (·.2)) D nd fun f hf => by
      obtain ⟨p, hp1, rfl⟩ := List.mem_map.mp hf
      exact hD _ (good p (hL p hp1)).2
    rw [List.length_map] at z
    omega
  · have inL : ∀ p ∈ L, p ∈ bs.map fun b => (b, keyH H b) := fun p hp1 => List.mem_of_mem_take (g.1 p hp1)
    refine ⟨.ref s.heap.objs.size, upd H s.heap.objs.size (SetF X.prog X.w s.heap.objs.size L), I.laid (t' := tk) k (Nat.le_refl _) ?_, rfl, q _ L hn (fun p hp1 => good p (inL p hp1)) (fun f hf => ?_) R.nd⟩
    · have R0 : Lies0 X.prog X.w h' s.heap.objs.size L := ⟨ep, t, R.obj, R.tab, R.nd, R.led, R.room, R.few⟩
      obtain ⟨o, ho, _⟩ := R.obj
      refine ⟨R0, ⟨o, ho⟩, fun h1 h2 p kk => ?_⟩
      obtain ⟨ep', t', ⟨o', ho', r'⟩, q'⟩ := Lies0.ex p
      exact ⟨ep', t', ⟨o', kk o' ho', r'⟩, q'⟩
    · rw [← keysH hp] at hf
      obtain ⟨b, hb, rfl⟩ := List.mem_map.mp hf
      exact g.2 (b, keyH H b) (by rw [List.take_length]; exact List.mem_map.mpr ⟨b, hb, rfl⟩)
/-- sorted(set) -/
def rSortSF (P : Program) (w : World) : List V → Hp → VK → Prop := fun vs H Q => ∃ (a : Addr) (L : List (Addr × List Key)), vs = [V.ref a] ∧ H a = some (SetF P w a L) ∧ (∀ p ∈ L, TupAt H p.1 p.2 ∧ Shp p.2) ∧ SortQ H (L.map (·.2)) Q
theorem cr_sortSF (hc : X.calm = true) : CallR X (.builtin "sorted") (rSortSF X.prog X.w) := by
  intro pins s σ H vs us Q I r h
  obtain ⟨a, L, rfl, ha, hL, q⟩ := h
  rw [Vals.ref1 r]
  have R0 : Lies0 X.prog X.w s.heap a L := (I.hok a _ ha).1
  obtain ⟨ep, t, ⟨o, ho, hex, hd⟩, T, nd, ld, room, few⟩ := R0.ex
  have hp : Paired (TupAt H) (L.map (·.1)) (L.map (·.2)) := by
    clear q T nd room few hd ho ha R0
    induction L with
    | nil => exact .nil
    | cons p L ih => exact .cons (hL p List.mem_cons_self).1 (ih fun p hp => hL p (List.mem_cons_of_mem _ hp))
  have sh : ∀ f ∈ L.map (·.2), Shp f := fun f hf => by
    obtain ⟨p, hp, rfl⟩ := List.mem_map.mp hf
    exact (hL p hp).2
  refine sorted_rule (R := fun s1 => s.heap.objs.size ≤ s1.heap.objs.size ∧ s1.gens = s.gens ∧ s1.os = s.os) I (bs := L.map (·.1)) (by rw [List.length_map, sizeLine_eq]; omega) (keyH H) (fun b hb => ⟨(inH hp b hb).1, sh _ (inH hp b hb).2⟩) (fun Q' zz => ?_) (fun s1 h2 p xs its c k1 r1 k2 hp1 hz2 hv hg => ?_) (sortQ_of hp q)
  · refine collect_set (A := X.A.in1) (I.ok.hd hc) ⟨o, ho, hex.1, hd⟩ (lies_fits T (by omega)) (by rw [ent_len]; unfold scanBound; omega) T.ris ld fun s1 vs k1 hz g1 o1 pm => zz s1 vs k1 ⟨hz, g1, o1⟩ ?_
    have e : (ent (MK X.prog X.w) L).toArray.toList.map (·.2) = (L.map (·.1)).map Value.ref := by
      unfold ent
      simp [Function.comp_def]
    rw [e] at pm
    exact pm
  · obtain ⟨r1, r2, r3⟩ := r1
    have hsz : s.heap.objs.size ≤ p := Nat.le_trans r1 hp1
    have hn := I.hok.fresh hsz
    have kk : ∀ b o, s.heap.get? b = some o → h2.get? b = some o := fun b o e => k2 b o (k1 b o e)
    exact ⟨hn, I.call' (ch := []) (s' := { s1 with heap := h2 }) r3 (Un.laid kk hsz hn) (I.hok.laid kk hsz ⟨hz2, its, c, hv, hg⟩) (by rw [show ({ s1 with heap := h2 } : Shared).gens = s.gens from r2]; exact I.bare) fun _ z => nomatch z⟩
end
end L2.My
end
section
set_option Elab.async false
set_option linter.all false
set_option maxRecDepth 100000
set_option maxHeartbeats 4000000
/-! f < g of two facts. -/
namespace L2.My
open PySem PySem.Spec PyProof.Rows
def eqJ (f g : List Key) (j : Nat) : Bool := decide (f[j]? = g[j]?)
def ltJ (f g : List Key) (j : Nat) : Bool := match f[j]?, g[j]? with
  | some a, some b => itemLt (oK a) (oK b)
  | _, _ => false
theorem lex_at (f g : List Key) : ∀ (n i : Nat), n = min (f.length - i) (g.length - i) → i ≤ f.length → i ≤ g.length → Ob.lexAt (eqJ f g) (ltJ f g) (decide (f.length < g.length)) i n = ltF (f.drop i) (g.drop i)
  | 0, i, hn, hf, hg => by
    show decide (f.length < g.length) = _
    by_cases h1 : i = f.length
    · subst h1
      rw [List.drop_length]
      by_cases h2 : f.length = g.length
      · rw [h2, List.drop_length, decide_eq_false (by omega)]; rfl
      · rw [List.drop_eq_getElem_cons (by omega), decide_eq_true (by omega)]; rfl
    · have h2 : i = g.length := by omega
      subst h2
      rw [List.drop_length, List.drop_eq_getElem_cons (by omega), decide_eq_false (by omega)]
      rfl
  | n + 1, i, hn, hf, hg => by
    have h1 : i < f.length := by omega
    have h2 : i < g.length := by omega
    have ih := lex_at f g n (i + 1) (by omega) h1 h2
    show (if eqJ f g i = true then Ob.lexAt (eqJ f g) (ltJ f g) (decide (f.length < g.length)) (i + 1) n else ltJ f g i) = _
    have e1 : f[i]? = some f[i] := List.getElem?_eq_getElem h1
    have e2 : g[i]? = some g[i] := List.getElem?_eq_getElem h2
    have ec : ltF (f.drop i) (g.drop i) = (itemLt (oK f[i]) (oK g[i]) || (!itemLt (oK g[i]) (oK f[i]) && ltF (f.drop (i + 1)) (g.drop (i + 1)))) := by
      rw [List.drop_eq_getElem_cons h1, List.drop_eq_getElem_cons h2]
      rfl
    rw [ec, ih]
    unfold eqJ ltJ
    rw [e1, e2]
    by_cases e : f[i] = g[i]
    · rw [decide_eq_true (by rw [e]), if_pos rfl, e]
      have ir : itemLt (oK g[i]) (oK g[i]) = false := itemOrd.irrefl _
      rw [ir]
      rfl
    · rw [decide_eq_false (fun z => e (Option.some.inj z)), if_neg (by simp)]
      show itemLt (oK f[i]) (oK g[i]) = _
      cases ha : itemLt (oK f[i]) (oK g[i]) with
      | true => rfl
      | false =>
        cases hb : itemLt (oK g[i]) (oK f[i]) with
        | true => rfl
        | false => exact absurd (oK_inj (itemOrd.total _ _ ha hb)) e
def rLtF : R2 := fun x y H Q => ∃ (a b : Addr) (f g : List Key), x = .ref a ∧ y = .ref b ∧ TupAt H a f ∧ TupAt H b g ∧ Shp f ∧ Shp g ∧ Q (.bl (ltF f g)) H
theorem item_at {P : Program} {w : World} : ∀ {f : List Key} {us : List Value}, PySem.ItemsAre (mixKind P w) f us → us.length = f.length ∧ ∀ j (h : j < us.length), ∃ k, f[j]? = some k ∧ ((∃ i t, k = .inl i ∧ us[j] = .int i t) ∨ (∃ x t, k = .inr x ∧ us[j] = .str x t))
  | [], _, r => by cases r; exact ⟨rfl, fun j h => absurd h (by simp)⟩
  | k :: f, _, r => by
    cases r with
    | cons h t =>
      obtain ⟨e, z⟩ := item_at t
      refine ⟨by simp [e], fun j hj => ?_⟩
      cases j with
      | zero => exact ⟨k, rfl, mixShape h⟩
      | succ j => exact z j (by simpa using hj)
theorem shp_get {f : List Key} (sf : Shp f) : ∀ j k, f[j]? = some k → if j = 0 then ∃ x, k = .inr x else ∃ i, k = .inl i := by
  obtain ⟨z, is, rfl⟩ := sf
  intro j k h
  cases j with
  | zero =>
    rw [if_pos rfl]
    exact ⟨z, (Option.some.inj h).symm⟩
  | succ j =>
    rw [if_neg (by omega)]
    rw [List.getElem?_cons_succ, List.getElem?_map] at h
    cases e : is[j]? with
    | none => rw [e] at h; cases h
    | some i => rw [e] at h; exact ⟨i, (Option.some.inj h).symm⟩
section
variable {X : Cx}
theorem op_ltF (hu : X.A.units < cLine) : OpR X (compareOp .Lt) rLtF := by
  intro pins s σ H x y v u Q I rx ry h
  obtain ⟨a, b, f, g, rfl, rfl, ha, hb, sf, sg, q⟩ := h
  cases rx
  cases ry
  obtain ⟨o, its, n, ho, hc, hd, hi⟩ := key_of I.hok ha
  obtain ⟨o2, its2, n2, ho2, hc2, hd2, hi2⟩ := key_of I.hok hb
  have t1 : s.heap.IsTuple a its := ⟨o, ho, hc, n, hd⟩
  have t2 : s.heap.IsTuple b its2 := ⟨o2, ho2, hc2, n2, hd2⟩
  obtain ⟨l1, z1⟩ := item_at hi
  obtain ⟨l2, z2⟩ := item_at hi2
  have e1 : its.size = f.length := by rw [← l1, Array.length_toList]
  have e2 : its2.size = g.length := by rw [← l2, Array.length_toList]
  have two : ∀ j (h1 : j < its.size) (h2 : j < its2.size), (∃ x t x' t', f[j]? = some (.inr x) ∧ g[j]? = some (.inr x') ∧ its[j] = .str x t ∧ its2[j] = .str x' t') ∨
      (∃ x t x' t', f[j]? = some (.inl x) ∧ g[j]? = some (.inl x') ∧ its[j] = .int x t ∧ its2[j] = .int x' t') := by
    intro j h1 h2
    obtain ⟨k, ek, c⟩ := z1 j (by simpa using h1)
    obtain ⟨k', ek', c'⟩ := z2 j (by simpa using h2)
    have s1 := shp_get sf j k ek
    have s2 := shp_get sg j k' ek'
    by_cases hj : j = 0
    · rw [if_pos hj] at s1 s2
      obtain ⟨x, rfl⟩ := s1
      obtain ⟨x', rfl⟩ := s2
      rcases c with ⟨i, t, ei, ev⟩ | ⟨y, t, ei, ev⟩
      · cases ei
      · rcases c' with ⟨i, t', ei', ev'⟩ | ⟨y', t', ei', ev'⟩
        · cases ei'
        · cases ei; cases ei'
          exact .inl ⟨x, t, x', t', ek, ek', by simpa using ev, by simpa using ev'⟩
    · rw [if_neg hj] at s1 s2
      obtain ⟨x, rfl⟩ := s1
      obtain ⟨x', rfl⟩ := s2
      rcases c with ⟨i, t, ei, ev⟩ | ⟨y, t, ei, ev⟩
      · rcases c' with ⟨i', t', ei', ev'⟩ | ⟨y', t', ei', ev'⟩
        · cases ei; cases ei'
          exact .inr ⟨x, t, x', t', ek, ek', by simpa using ev, by simpa using ev'⟩
        · cases ei'
      · cases ei
  have R := Ob.RcOp.tuples_lt (A := X.A) (s := s) (e := eqJ f g) (r := ltJ f g) t1 t2 hu (fun j h1 h2 => by
    unfold eqJ
    rcases two j h1 h2 with ⟨x, t, x', t', q1, q2, v1, v2⟩ | ⟨x, t, x', t', q1, q2, v1, v2⟩
    · rw [q1, q2, v1, v2]
      have z : (x == x') = decide (some (Sum.inr x : Key) = some (Sum.inr x')) := by
        by_cases q : x = x'
        · subst q; simp
        · rw [decide_eq_false (by simpa using q)]; exact beq_eq_false_iff_ne.mpr q
      rw [← z]
      exact SeqAt.EqAt.str_str _ _ _ _
    · rw [q1, q2, v1, v2]
      have z : (x == x') = decide (some (Sum.inl x : Key) = some (Sum.inl x')) := by
        by_cases q : x = x'
        · subst q; simp
        · rw [decide_eq_false (by simpa using q)]; exact beq_eq_false_iff_ne.mpr q
      rw [← z]
      exact SeqAt.EqAt.int_int _ _ _ _) (fun j h1 h2 _ => by
    unfold ltJ
    rcases two j h1 h2 with ⟨x, t, x', t', q1, q2, v1, v2⟩ | ⟨x, t, x', t', q1, q2, v1, v2⟩
    · rw [q1, q2, v1, v2]
      exact fun prog w E Q h => DT.rcLt_str _ _ _ _ _ _ prog w E Q (by
        have z : (decide (x.cps.toList < x'.cps.toList)) = itemLt (oK (.inr x)) (oK (.inr x')) := rfl
        rw [z]; exact h)
    · rw [q1, q2, v1, v2]
      exact Ob.RcOp.lt_int _ _ _ _)
  have lx := lex_at f g (min f.length g.length) 0 rfl (by omega) (by omega)
  rw [List.drop_zero, List.drop_zero] at lx
  rw [e1, e2, lx] at R
  have z : wpAny (model X.prog X.w) X.A (compareOp .Lt (.ref a) (.ref b)) (EP X pins σ Q) X.xe s := R X.prog X.w X.xe (EP X pins σ Q) ⟨.bl _, H, I, rfl, q⟩
  exact z
end
end L2.My
end
section
set_option Elab.async false
set_option linter.all false
set_option maxRecDepth 100000
set_option maxHeartbeats 4000000
/-! Own exceptions as values: made by an __init__ that is walked as a def, asked by isinstance, their fields read. -/
namespace L2.My
open PySem PySem.Spec PyProof.Rows

/-- the facts of an own exception class, beside OexC -/
structure XC (K : PySem.W.Frag) (C : Addr) : Prop where
  o : OexC K C
  hga : PySem.W.findIn K (.ref C) "__getattribute__" = some (some (.builtin "BaseException.__getattribute__"))
  hgt : PySem.W.findIn K (.ref C) "__getattr__" = some none
  ha : PySem.W.findIn K (.ref C) "__class__" = some (some (.builtin "object.__class__"))
  hn : PySem.W.specialIn K (.builtin "object.__class__") "__get__" = some (some (.builtin "getset_descriptor.__get__"))
  ht : PySem.W.takesIn K (.builtin "object.__class__") = some true
  hm : PySem.W.mroIn K C (.type "object") = some true
  hd : PySem.W.hasDictIn K C = true

/-- C(e, ..): a new exception object, then __init__; it stays tracked -/
def tMkX (C : Addr) (sp : Sp) (dvs : List V) (ta : TA) : TE := fun σ H Q => ta σ H fun vs H1 => vs.length ≤ 1000 ∧ ∀ a, H1 a = none → sp (.ref a :: (vs ++ dvs)) (upd H1 a (exo a C none))
  (fun v H2 => v = .non ∧ Q (.ref a) H2) (fun _ _ _ => False)
section
variable {X : Cx} {CX : CXT} {k : Nat} {fI C : Addr} {fd : FuncData} {ps : List Str} {sp : Sp} {dvs : List V} {ds : List Value} {x : Str} {p pos : Pos} {e : Expr} {es : List Expr} {ta : TA}
theorem run_mkx {pins : List (Addr × Obj)} {σ : St} {H : Hp} {s : Shared} {Q : VK} {us : List Value} {vs : List V} (T : OexC X.K C) (iC : PySem.W.findIn X.K (.ref C) "__init__" = some (some (.ref fI))) (tI : PySem.W.typeIn X.K (.ref fI) = some (.type "function"))
    (F1 : FnOk X.prog X.w X.K X.mg X.base CX k fI fd ps sp) (hr : Room (k + 1) X.A) (hb : Binds X.K fd ps ds) (hd : Vals dvs ds) (hx : Passes CX X (fun _ _ _ => False)) (I : Inv X pins σ H s) (r1 : Vals vs us) (hz : vs.length ≤ 1000)
    (h : ∀ a, H a = none → sp (.ref a :: (vs ++ dvs)) (upd H a (exo a C none)) (fun v H2 => v = .non ∧ Q (.ref a) H2) (fun _ _ _ => False)) :
    wpAny (model X.prog X.w) X.A (call (.ref C) us) (EP X pins σ Q) X.xe s := by
  obtain ⟨nm, q, N, bs, bm, sn, sub, ab, col, dd, k0, k1, k2, k3, k5, hC, hbm⟩ := T.cls
  obtain ⟨hp, g, dr, tk, os⟩ := s
  have hsz : hp.objs.size ≤ hp.objs.size + 1 := Nat.le_succ _
  have hn : H (hp.objs.size + 1) = none := I.hok.fresh hsz
  have hq := h (hp.objs.size + 1) hn
  have kk : ∀ b o, hp.get? b = some o → ((hp.push (PySem.W.kdv_tup us)).push (PySem.HandSPX.excO C hp.objs.size)).get? b = some o := fun b o e => Heap.get?_push_of_some _ (Heap.get?_push_of_some _ e)
  have hget : ((hp.push (PySem.W.kdv_tup us)).push (PySem.HandSPX.excO C hp.objs.size)).get? (hp.objs.size + 1) = some (PySem.HandSPX.excO C hp.objs.size) := by heap_get
  have I2 : Inv X pins σ (upd H (hp.objs.size + 1) (exo (hp.objs.size + 1) C none)) ⟨(hp.push (PySem.W.kdv_tup us)).push (PySem.HandSPX.excO C hp.objs.size), g, dr, tk, os⟩ :=
    I.laid (t' := tk) (a := hp.objs.size + 1) (o := exo (hp.objs.size + 1) C none) (h' := (hp.push (PySem.W.kdv_tup us)).push (PySem.HandSPX.excO C hp.objs.size)) kk hsz (exo_ok hget)
  have r2 : Vals (V.ref (hp.objs.size + 1) :: (vs ++ dvs)) (Value.ref (hp.objs.size + 1) :: (us ++ ds)) := .cons rfl (r1.append hd)
  have hl : (Value.ref (hp.objs.size + 1) :: us ++ ds).length = ps.length := by
    have e := r2.length
    rw [F1.len _ _ _ _ hq] at e
    exact e.symm
  have hus : us.length ≤ sizeLine := by
    rw [← Paired.length r1, sizeLine_eq]
    omega
  refine wpAny_call (PySem.HandSPX.call_own F.excBase_ValueError (fun Y => PySem.HandSPX.refsVE_contains Y bm hbm) (I.kIn _ _ hC) (PySem.W.looks_findIn I.kIn iC) (fun self => PySem.W.bind_fn I.kIn self tI) hus
    (codeAny_mono (F1.run _ X.stack _ _ ⟨Value.ref (hp.objs.size + 1) :: us, []⟩ (Value.ref (hp.objs.size + 1) :: (us ++ ds)) _ _ (fun _ _ _ => False) (hr.make C us []) (I2.env0.make C us []) (hb _ (Value.ref (hp.objs.size + 1) :: us) I2.kIn hl) r2 hq) fun r s' hq' => ?_))
  cases r with
  | error er => exact hx pins σ _ _ er s' I2 hq'
  | ok fl =>
    cases fl with
    | ret u =>
      obtain ⟨v, H', I3, rv, ev, q3⟩ := I2.after hq'
      subst ev
      exact ⟨rv, ⟨V.ref (hp.objs.size + 1), H', I3, rfl, q3⟩⟩
    | next => exact False.elim hq'
    | brk => exact False.elim hq'
    | cont => exact False.elim hq'
theorem pe_mkx (T : OexC X.K C) (iC : PySem.W.findIn X.K (.ref C) "__init__" = some (some (.ref fI))) (tI : PySem.W.typeIn X.K (.ref fI) = some (.type "function"))
    (F1 : FnOk X.prog X.w X.K X.mg X.base CX k fI fd ps sp) (hr : Room (k + 1) X.A) (hb : Binds X.K fd ps ds) (hd : Vals dvs ds) (hx : Passes CX X (fun _ _ _ => False)) (hg : Gl X x) (hm : X.mg x = some (.ref C)) (ha : PA X (e :: es) ta)
    (hdb : (x == ("__debug__" : Str)) = false := by decide) (he : starEach (e :: es) X.env = (false, eval e X.env) :: starEach es X.env := by rfl) (hpl : (backTo pos (starEach es X.env)).any (·.1) = false := by rfl) :
    PE X (.Call (.Name x p) (e :: es) [] pos) (tMkX C sp dvs ta) := by
  refine ⟨fun pins s σ H Q I h => ?_⟩
  refine wpAny_Call_Name_kw (ld_glob I hg hm ?_ hdb)
  refine PySem.W.callWith_K (h₀ := X.base) I.ok.mod.kin T.kC (thn (ha.run pos pins s σ H _ I h) fun us s1 ⟨vs, H1, I1, r1, hz, q1⟩ => ⟨I1.kIn, ?_⟩) he hpl
  exact run_mkx T iC tI F1 hr hb hd hx I1 r1 hz q1
theorem pe_mkx0 (T : OexC X.K C) (iC : PySem.W.findIn X.K (.ref C) "__init__" = some (some (.ref fI))) (tI : PySem.W.typeIn X.K (.ref fI) = some (.type "function"))
    (F1 : FnOk X.prog X.w X.K X.mg X.base CX k fI fd ps sp) (hr : Room (k + 1) X.A) (hb : Binds X.K fd ps ds) (hd : Vals dvs ds) (hx : Passes CX X (fun _ _ _ => False)) (hg : Gl X x) (hm : X.mg x = some (.ref C))
    (hdb : (x == ("__debug__" : Str)) = false := by decide) :
    PE X (.Call (.Name x p) [] [] pos) (tMkX C sp dvs tNil) := by
  refine ⟨fun pins s σ H Q I h => ?_⟩
  refine wpAny_Call_Name_kw (ld_glob I hg hm ?_ hdb)
  exact PySem.W.callWith_K0 I.kIn T.kC (run_mkx (us := []) T iC tI F1 hr hb hd hx I .nil h.1 h.2)
end

/-! ### an exception that stands: with its dict, or with none -/
/-- at a stands an exception of the class at C, its dict (if any) tracked -/
def ErrAt (H : Hp) (a C : Addr) : Prop := ∃ d : Option Addr, H a = some (exo a C d) ∧ ∀ dx, d = some dx → ∃ fs, H dx = some (exd dx fs)
theorem ErrAt.same {H H' : Hp} {a C : Addr} (h : ErrAt H a C) (s : Same H H') : ErrAt H' a C := by
  obtain ⟨d, h1, h2⟩ := h
  exact ⟨d, s _ _ h1, fun dx e => by
    obtain ⟨fs, q⟩ := h2 dx e
    exact ⟨fs, s _ _ q⟩⟩
section
variable {X : Cx} {pins : List (Addr × Obj)} {σ : St} {H : Hp} {s : Shared}
theorem XC.cl {K : PySem.W.Frag} {C : Addr} (T : XC K C) : (PySem.W.clsIn K C).isSome = true := by
  obtain ⟨cd, h, _⟩ := PySem.W.any_some T.hd
  rw [h]
  rfl
theorem ErrAt.inst {a C : Addr} (I : Inv X pins σ H s) (h : ErrAt H a C) : ∃ ox od, PySem.W.InstAt s.heap a ox C od := by
  obtain ⟨d, h1, h2⟩ := h
  obtain ⟨t1, ho⟩ := exo_at I.hok h1
  cases d with
  | none => exact ⟨_, none, ho, rfl, rfl, trivial⟩
  | some dx =>
    obtain ⟨fs, q⟩ := h2 dx rfl
    obtain ⟨mA, ⟨oD, _, _, hoD, _⟩, _⟩ := exd_at I.hok q
    exact ⟨_, some oD, ho, rfl, rfl, hoD⟩
/-- isinstance(e, c) of a standing exception -/
def rIsX (K : PySem.W.Frag) : List V → Hp → VK → Prop := fun xs H Q => ∃ (a C : Addr) (c : V) (u : Value) (b : Bool), xs = [.ref a, c] ∧ ErrAt H a C ∧ XC K C ∧ ClsV c u ∧ PySem.W.kitOne K (.ref C) u = some b ∧ Q (.bl b) H
theorem call_isX : CallR X (.builtin "isinstance") (rIsX X.K) := by
  intro pins s σ H xs us Q I r h
  obtain ⟨a, C, c, u, b, rfl, hE, T, k, e, q⟩ := h
  obtain ⟨u1, u2, rfl, r1, r2⟩ := vals2 r
  have e2 := k.eq r2
  subst e2
  cases (show u1 = Value.ref a from r1)
  obtain ⟨ox, od, J⟩ := hE.inst I
  exact PySem.W.kia_one (PySem.W.kitx_exc T.cl T.hga T.hgt T.o.exC T.ha T.hn T.ht T.hm) I.kIn J e (fun z => nomatch z) fun tk => ⟨.bl b, H, I.tok tk, rfl, q⟩
/-- e.f of a standing exception -/
def tXfv (K : PySem.W.Frag) (f : Str) (te : TE) : TE := fun σ H Q => te σ H fun x H1 => ∃ (a C dx : Addr) (fs : List (Str × V)) (v : V), x = .ref a ∧ XC K C ∧ PySem.W.findIn K (.ref C) f = some none ∧ H1 a = some (exo a C (some dx)) ∧ H1 dx = some (exd dx fs) ∧ fs.lookup f = some v ∧ Q v H1
theorem pe_xfv {e : Expr} {te : TE} {pos : Pos} {n : Str} (he : PE X e te) (hb : attributeBase e n X.env (eval e X.env) = eval e X.env := by rfl) : PE X (.Attribute e n pos) (tXfv X.K n te) := by
  refine ⟨fun pins s σ H Q I h => ?_⟩
  refine attr_of hb (thn (he.run pins s σ H _ I h) fun u s1 hh => ?_)
  obtain ⟨x, H1, I1, rx, a, C, dx, fs, v, ex, T, hno, ea, ed, l, q⟩ := hh
  subst ex
  obtain rfl : u = Value.ref a := rx
  obtain ⟨t1, ho⟩ := exo_at I1.hok ea
  obtain ⟨mA, hns, hr⟩ := exd_at I1.hok ed
  obtain ⟨od, hod, hl⟩ := lookIn_ns hns
  obtain ⟨u, hu, ru⟩ := RelO.some_of (v := v) (o := mA n) (by rw [← l]; exact hr n)
  have J : PySem.W.InstAt s1.heap a _ C (some od) := ⟨ho, rfl, rfl, hod⟩
  exact HandSPX.exc_get I1.kIn J T.hga T.hgt T.o.exC (PySem.W.findObj_own T.hd hno rfl (by rw [hl, hu])) (handed_of ru) ⟨v, H1, I1.tok _, ru, q⟩
end
end L2.My
end
section
set_option Elab.async false
set_option linter.all false
set_option maxRecDepth 100000
set_option maxHeartbeats 4000000
/-! Small rules of our own. -/
namespace L2.My
open PySem PySem.Spec PyProof.Rows
section
variable {X : Cx}
theorem pt_and {a b : Expr} {rest : List Expr} {pos : Pos} {tA tB : TT} (ha : PT X a tA) (hb : PW X (.BoolOp .And (b :: rest) pos) tB) : PT X (.BoolOp .And (a :: b :: rest) pos) (tAnd tA tB) := (pw_and ha hb).pt
theorem pt_or {a b : Expr} {rest : List Expr} {pos : Pos} {tA tB : TT} (ha : PT X a tA) (hb : PW X (.BoolOp .Or (b :: rest) pos) tB) : PT X (.BoolOp .Or (a :: b :: rest) pos) (tOr tA tB) := (pw_or ha hb).pt
theorem op_le_str : OpR X (compareOp .LtE) (fun x y H Q => ∃ i j, x = .str i ∧ y = .str j ∧ Q (.bl (!decide (j.cps.toList < i.cps.toList))) H) := by
  intro pins s σ H x y v u Q I rx ry h
  obtain ⟨i, j, rfl, rfl, q⟩ := h
  obtain ⟨t, rfl⟩ := rx
  obtain ⟨t', rfl⟩ := ry
  exact P.le_str (fin_bl I q (by simp))
/-- d in a tuple of data -/
def rInTD (K : PySem.W.Frag) : R2 := fun x y H Q => ∃ d ds, Dp K H x d ∧ Dp K H y (.tuple ds) ∧ SeqAt.shaped d = true ∧ SeqAt.shaped (.tuple ds) = true ∧ Q (.bl (ds.any fun z => PyData.eqv z d)) H
def rNotInTD (K : PySem.W.Frag) : R2 := fun x y H Q => ∃ d ds, Dp K H x d ∧ Dp K H y (.tuple ds) ∧ SeqAt.shaped d = true ∧ SeqAt.shaped (.tuple ds) = true ∧ Q (.bl (!ds.any fun z => PyData.eqv z d)) H
theorem op_inTD (hu : X.A.units + 65 < cLine) : OpR X (compareOp .In) (rInTD X.K) := by
  intro pins s σ H x y v u Q I rx ry h
  obtain ⟨d, ds, hd, he, sd, se, q⟩ := h
  obtain ⟨as, r1⟩ := Dp.reads I d x v hd rx
  obtain ⟨bs, r2⟩ := Dp.reads I (.tuple ds) y u he ry
  exact SeqAt.in_tuple_reads r2 r1 (SeqAt.canLay_of_shaped se) (SeqAt.canLay_of_shaped sd) (room_in_shaped sd hu) ⟨.bl _, H, I, rfl, q⟩
theorem op_notInTD (hu : X.A.units + 65 < cLine) : OpR X (compareOp .NotIn) (rNotInTD X.K) := by
  intro pins s σ H x y v u Q I rx ry h
  obtain ⟨d, ds, hd, he, sd, se, q⟩ := h
  obtain ⟨as, r1⟩ := Dp.reads I d x v hd rx
  obtain ⟨bs, r2⟩ := Dp.reads I (.tuple ds) y u he ry
  exact SeqAt.notIn_tuple_reads r2 r1 (SeqAt.canLay_of_shaped se) (SeqAt.canLay_of_shaped sd) (room_in_shaped sd hu) ⟨.bl _, H, I, rfl, q⟩
/-- a text, repeated -/
def strRep (z : Str) (n : Nat) : Str := ⟨(List.replicate n z.cps).foldl (· ++ ·) #[]⟩
theorem foldl_app (z : Array Nat) : ∀ (n : Nat) (a : Array Nat), ((List.replicate n z).foldl (· ++ ·) a).size = a.size + z.size * n
  | 0, a => by simp
  | n + 1, a => by
    rw [List.replicate_succ, List.foldl_cons, foldl_app z n, Array.size_append, Nat.mul_succ]
    omega
theorem strRep_len (z : Str) (n : Nat) : (strRep z n).length = z.length * n := by
  show ((List.replicate n z.cps).foldl (· ++ ·) #[]).size = _
  rw [foldl_app]
  show (#[] : Array Nat).size + z.cps.size * n = z.cps.size * n
  simp
theorem op_repS : OpR X (binaryOp .Mult) (fun x y H Q => ∃ z k, x = .str z ∧ y = .int k ∧ 2 ≤ k ∧ k ≤ 1000 ∧ 0 < z.length ∧ z.length ≤ 1000 ∧ Q (.str (strRep z k.toNat)) H) := by
  intro pins s σ H x y v u Q I rx ry h
  obtain ⟨z, k, rfl, rfl, h2, h3, h4, h5, q⟩ := h
  obtain ⟨t, rfl⟩ := rx
  obtain ⟨t', rfl⟩ := ry
  have c1 : ¬ k < 1 := by omega
  have c2 : ¬ ((k == 1 || z.length == 0) = true) := by
    simp
    omega
  refine P.mul_str ?_ (fun _ _ => ?_) (fun _ _ => ?_) ?_
  · simp
    omega
  · have h6 : (1000 : Int) ≤ (2 ^ 63 - 1) / k := by
      apply (Int.le_ediv_iff_mul_le (by omega)).mpr
      omega
    omega
  · have h7 : z.length * k.toNat ≤ 1000 * 1000 := Nat.mul_le_mul h5 (by omega)
    show decide (z.length * k.toNat > sizeLine) = false
    rw [sizeLine_eq]
    exact decide_eq_false (by omega)
  · rw [if_neg c1, if_neg c2]
    refine ⟨?_, .str _, H, I.tok _, ⟨_, rfl⟩, q⟩
    show (strRep z k.toNat).length ≤ sizeLine
    rw [strRep_len, sizeLine_eq]
    have h7 : z.length * k.toNat ≤ 1000 * 1000 := Nat.mul_le_mul h5 (by omega)
    omega
/-- how often True stands in a list of bools -/
def isTrueV (v : Value) : Bool := match v with
  | .bool b => b
  | _ => false
theorem trueV_count : ∀ {us : List Value} {bs : List Bool}, Vals (bs.map V.bl) us → us.countP isTrueV = bs.count true ∧ ∀ y ∈ us, ∃ b, y = Value.bool b
  | us, [], r => by
    cases r
    exact ⟨rfl, fun y hy => by cases hy⟩
  | us, b :: bs, r => by
    cases r with
    | cons r1 rt =>
      obtain ⟨h1, h2⟩ := trueV_count rt
      obtain rfl := (show _ = Value.bool b from r1)
      refine ⟨?_, fun y hy => ?_⟩
      · rw [List.countP_cons, List.count_cons, h1]
        cases b <;> rfl
      · rcases List.mem_cons.mp hy with e | e
        · exact ⟨b, e⟩
        · exact h2 y e
def rCntB (K : PySem.W.Frag) : V → List V → Hp → VK → Prop := fun x xs H Q => ∃ (p : Addr) (bs : List Bool), x = .ref p ∧ xs = [.bl true] ∧ SqL K H p (bs.map V.bl) ∧ Q (.int (bs.count true : Nat)) H
theorem mt_lcountB : MtR X "list.count" (rCntB X.K) := by
  intro pins s σ H x xs v us Q I rx rxs h
  obtain ⟨p, bs, rfl, rfl, hs, q⟩ := h
  cases rx
  obtain ⟨u, rfl, ru⟩ := rxs.one
  cases (show u = Value.bool true from ru)
  obtain ⟨its, rv, ⟨⟨cls, dd, data, sl⟩, n, ho, hc, hdn, hd⟩, hlen⟩ := I.list hs
  simp only at hc hd
  subst hc hd
  obtain ⟨ec, hall⟩ := trueV_count rv
  refine call_meets PySem.F.slot_list_count ⟨_, ho, rfl⟩ PySem.F.entry_list_count (PySem.F.args_list_count_2 _ _)
    (SeqAt.list_countAt p its.toArray n dd sl (.bool true) isTrueV) ⟨ho, fun y hy => ?_, ?_⟩
  · obtain ⟨b, rfl⟩ := hall y (by simpa using hy)
    have z := SeqAt.EqAt.bool_bool (A := X.A.in1) (s := s) b true
    cases b <;> exact z
  · refine ⟨.int (bs.count true : Nat), H, I.tok _, ⟨s.toks, ?_⟩, q⟩
    show Value.int ((its.toArray.toList.countP isTrueV : Nat) : Int) s.toks = Value.int ((bs.count true : Nat) : Int) s.toks
    rw [show its.toArray.toList = its from rfl, ec]
/-- l.extend(t), t a tuple -/
def rExtT (K : PySem.W.Frag) : V → List V → Hp → VK → Prop := fun x vs H Q => ∃ l b xs zs, x = .ref l ∧ vs = [.ref b] ∧ H l = some (.lst xs) ∧ SqT K H b zs ∧ xs.length + zs.length ≤ sizeLine ∧ Q .non (upd H l (.lst (xs ++ zs)))
theorem ext_tup (l : Addr) (items : Array Value) (n : Nat) (b : Addr) (o : Obj) (items2 : Array Value) (n2 : Nat) (ho : o.cls = .type "tuple") (hd : o.data = .seq items2 n2) (hs0 : ¬(!items.isEmpty && Builtin.List.listTooLong (items.size + items2.size)) = true) (hs1 : items.size ≤ sizeLine) (hs2 : items.size + items2.size ≤ sizeLine + 1) :
    Meets (Builtin.«list.extend» ⟨[.ref l, .ref b], []⟩) (fun _ R s => s.heap.get? l = some { cls := .type "list", dict := none, data := .seq items n, slots := #[] } ∧ s.heap.get? b = some o ∧ R (.ok (.ret Value.none)) { s with heap := s.heap.update l (Obj.mapSeq fun x => x ++ items2), toks := s.toks }) :=
  .of_wp fun prog w A R s h => by
    obtain ⟨hp, g, d, tk, os⟩ := s
    obtain ⟨hl, hb, h⟩ := h
    obtain ⟨oc, od, dt, sl⟩ := o
    dsimp only at ho hd
    subst ho hd
    have f2 := sub_tuple_tuple
    have f3 := sub_list_list
    have f4 := sub_tuple_list
    have f5 := sub_list_tuple
    have hz' : (items ++ items2).size ≤ sizeLine + 1 := by
      rw [Array.size_append]
      exact hs2
    wp_walk using (wpAny_updateSeq hl rfl (hz := hs1) (_hz' := hz')), wpAny_loadPart' hl, wpAny_loadPart' hb
    exact ⟨_, rfl, h⟩
theorem mt_extT : MtR X "list.extend" (rExtT X.K) := by
  intro pins s σ H x vs v us Q I rx rv h
  obtain ⟨l, b, xs, zs, rfl, rfl, hH, hB, hz, q⟩ := h
  cases rx
  obtain ⟨u, rfl, ru⟩ := rv.one
  cases ru
  obtain ⟨z, its, n, r, hl, e⟩ := I.lstM hH
  obtain ⟨its2, r2, ⟨o, e2, c2, n2, d2⟩, _⟩ := I.tuple hB
  have hl2 := r2.length
  have hsz : its.toArray.size + its2.toArray.size ≤ sizeLine := by
    rw [List.size_toArray, List.size_toArray]
    omega
  have hlong : ¬ (!its.toArray.isEmpty && Builtin.List.listTooLong (its.toArray.size + its2.toArray.size)) = true := by
    rw [notLongL hsz, Bool.and_false]
    exact Bool.false_ne_true
  refine call_meets F.slot_list_extend ⟨_, e, rfl⟩ F.entry_list_extend (F.args_list_extend_2 _ _)
    (ext_tup l its.toArray n b o its2.toArray n2 c2 d2 hlong (by rw [List.size_toArray]; omega) (by omega)) ⟨e, e2, ?_⟩
  refine ⟨.non, _, I.lset (its' := its ++ its2) hH e (by simp) (r.append r2) ?_, rfl, q⟩
  rw [List.length_append]
  omega
end
end L2.My
end
section
set_option Elab.async false
set_option linter.all false
set_option maxRecDepth 100000
set_option maxHeartbeats 4000000
/-! max of a list of ints with a default. -/
namespace PySem
section
variable {prog : Program} {w : World} {A : Around} {R : Result → Shared → Prop} {I : Addr} {fp wr : List Addr} {n : Nat} {P : Nat → Value → Prop} {St : Nat → Heap → Prop} {kw : List (Str × Value)}
theorem maxKw_turn (W : Walks prog w A.in1 I fp wr n P St) (bt : Nat → Nat → Bool) (hcmp : CmpOf prog w A.in1 .Gt P bt) (S : Addr) (hSf : S ∉ fp) :
    ∀ (k j : Nat) (s : Shared) (vb : Value) (c : Nat), n - (j + 1) = k → j + 1 ≤ n → St (j + 1) s.heap → P (argBest bt j) vb →
      s.heap.get? S = some { cls := .type "list", dict := none, data := .seq #[vb, vb] c, slots := #[] } →
      (∀ v h' tk, P (argBest bt (n - 1)) v → (∀ b o, b ∉ wr → b ≠ S → s.heap.get? b = some o → h'.get? b = some o) → R (.ok (.ret v)) { s with heap := h', toks := tk }) →
      codeAny (model prog w) A (.builtin "max.loop" ⟨[.ref I, .none, .ref S], kw⟩) R s := by
  have away : S ∉ wr := fun h => hSf (W.sub _ h)
  have name : (toString "max" ++ toString ".loop" : String) = "max.loop" := by decide
  intro k
  induction k with
  | zero =>
    intro j s vb c hk hj st pb hS hR
    have last : j + 1 = n := by omega
    refine codeAny_builtin F.entry_max_loop ?_
    rw [Around.under_plainId F.plain_max_loop _]
    refine wpAny_bind (m := seqItems? (.ref S)) (wpAny_seqItems hS rfl ?_)
    refine wpAny_bind (wpAny_tryCatch (W.done s _ _ (last ▸ st) fun h' tk keep => ?_))
    have hS2 := keep S _ away hS
    refine wpAny_bind (m := updateSeq S (fun _ => #[])) ?_
    refine wpAny_updateSeq hS2 rfl (wpAny_bind (wpAny_letGo (wpAny_pure ?_)))
    refine hR vb _ tk (by rw [← last]; exact pb) fun b o n1 n2 e => ?_
    rw [Heap.get?_update_other _ _ (Ne.symm n2)]
    exact keep b o n1 e
  | succ k ih =>
    intro j s vb c hk hj st pb hS hR
    have more : j + 1 < n := by omega
    refine codeAny_builtin F.entry_max_loop ?_
    rw [Around.under_plainId F.plain_max_loop _]
    refine wpAny_bind (m := seqItems? (.ref S)) (wpAny_seqItems hS rfl ?_)
    refine wpAny_bind (wpAny_tryCatch (W.item (j + 1) s _ _ more st fun v h' tk pv st2 keep => ?_))
    have hS2 := keep S _ away hS
    refine wpAny_bind (wpAny_pure ?_)
    refine wpAny_bind (wpAny_tryCatch (wpAny_holding (wpAny_bind (hcmp (j + 1) (argBest bt j) v vb _ _ _ pv pb ?_))))
    refine wpAny_bind (wpAny_holding (wpAny_truthy_bool ?_))
    refine wpAny_bind (wpAny_letGo (wpAny_pure ?_))
    cases hb : bt (j + 1) (argBest bt j) with
    | true =>
      simp only [if_true]
      refine wpAny_bind ?_
      refine wpAny_updateSeq hS2 rfl (wpAny_bind (wpAny_letGo ?_))
      rw [name]
      refine wpAny_pure ⟨plainId_quiet F.plain_max_loop _, ih (j + 1) _ v _ (by omega) more (W.frame _ _ _ st2 fun b hbf o e => ?_) (by simp only [argBest, hb, if_true]; exact pv) (Heap.get?_update_self _ hS2 rfl) fun v' h2 tk2 p2 k2 => ?_⟩
      · rw [Heap.get?_update_other _ _ (fun z : S = b => hSf (by rw [z]; exact hbf))]
        exact e
      · refine hR v' h2 tk2 p2 fun b o n1 n2 e => k2 b o n1 n2 ?_
        rw [Heap.get?_update_other _ _ (Ne.symm n2)]
        exact keep b o n1 e
    | false =>
      simp only [Bool.false_eq_true, if_false]
      refine wpAny_bind (wpAny_letGo ?_)
      rw [name]
      refine wpAny_pure ⟨plainId_quiet F.plain_max_loop _, ih (j + 1) _ vb c (by omega) more st2 (by simp only [argBest, hb, Bool.false_eq_true, if_false]; exact pb) hS2 fun v' h2 tk2 p2 k2 => ?_⟩
      exact hR v' h2 tk2 p2 fun b o n1 n2 e => k2 b o n1 n2 (keep b o n1 e)
end
section
variable {prog : Program} {w : World} {A : Around} {E : Value → Shared → Prop} {s : Shared}
/-- a built-in function called with keywords: its own tree -/
theorem call_kw_tree {id : String} {b : Builtin} {args : List Value} {kw : List (Str × Value)} {Q : Value → Shared → Prop} (hk : builtinKind id = none) (hp : plainId id = true) (hb : entryFor table id = some b) (ha : argsOk id ⟨args, kw⟩)
    (hc : wpAny (model prog w) A.in1 (b ⟨args, kw⟩) (fun fin s' => match fin with
      | .done f => (match (Except.ok f : Result) with | .ok (.ret v) => Q v s' | .ok _ => False | .error e => E e s')
      | .again c' => c'.quiet = true ∧ codeAny (model prog w) A c' (fun r s' => match r with | .ok (.ret v) => Q v s' | .ok _ => False | .error e => E e s') s') E s) :
    wpAny (model prog w) A (call (.builtin id) args kw) Q E s := by
  refine wpAny_call (codeAny_call_builtin hp hb ?_)
  simp only [checkBuiltinCall, hk]
  cases hsig : Manifest.signature? id with
  | none => exact wpAny_pure hc
  | some sig =>
    simp only [argsOk, hsig] at ha
    show wpAny _ A.in1 (Bind.checkArgs id sig ⟨args, kw⟩) _ _ s
    rw [show Bind.checkArgs id sig ⟨args, kw⟩ = pure () from ha]
    exact wpAny_pure hc
theorem args_maxD (a d : Value) : argsOk "max" ⟨[a], [(Str.ofString "default", d)]⟩ := by
  unfold argsOk
  kernel_rfl
theorem bind_maxD (d : Value) : Builtin.Builtins.bindParams "max" ["key", "default"] 0 ⟨[], [(Str.ofString "default", d)]⟩ = pure [none, some d] := by
  kernel_rfl
theorem max_intListD {l : Addr} {xs : Array (Int × Tok)} {d : Value} {Q : Value → Shared → Prop} (hh : A.handled = none) (hl : s.heap.IsList l (intItems xs))
    (h0 : xs.size = 0 → ∀ h' tk, (∀ b o, s.heap.get? b = some o → h'.get? b = some o) → Q d { s with heap := h', toks := tk })
    (h : 0 < xs.size → ∀ v h' tk, (intItems xs)[argBest (fun i j => decide (numAt xs i > numAt xs j)) (xs.size - 1)]? = some v → (∀ b o, s.heap.get? b = some o → h'.get? b = some o) → Q v { s with heap := h', toks := tk }) :
    wpAny (model prog w) A (call (.builtin "max") [.ref l] [(Str.ofString "default", d)]) Q E s := by
  have name : (toString "max" ++ toString ".loop" : String) = "max.loop" := by decide
  refine call_kw_tree F.kind_max F.plain_max F.entry_max (args_maxD _ _) ?_
  refine wpAny_bind (m := Builtin.Builtins.bindParams "max" ["key", "default"] 0 ⟨[], [(Str.ofString "default", d)]⟩) (wpAny_of_eq (bind_maxD d) ?_)
  refine wpAny_bind (wpAny_pure ?_)
  refine wpAny_bind (iter_intList hl fun s₂ e st hfp hlI => ?_)
  subst e
  refine wpAny_bind (wpAny_newObj_type ?_)
  rw [name]
  have W := Walks.list (prog := prog) (w := w) (A := A.in1) hh _ l hlI (intItems xs)
  have ne : (s.heap.push { cls := .type "list_iterator", data := .fields #[.ref l, .int 0 0] }).objs.size ∉ [s.heap.objs.size, l] := fun hm => Nat.lt_irrefl _ (hfp _ hm)
  have up : ∀ {b : Addr} {o o2 : Obj}, s.heap.get? b = some o → ((s.heap.push { cls := .type "list_iterator", data := .fields #[.ref l, .int 0 0] }).push o2).get? b = some o := fun e => Heap.get?_push_of_some _ (Heap.get?_push_of_some _ e)
  have old : ∀ {b : Addr} {o : Obj}, s.heap.get? b = some o → b ∉ [s.heap.objs.size] := fun e hm => by
    rcases List.mem_cons.mp hm with z | z
    · exact absurd (z ▸ Heap.lt_size e) (Nat.lt_irrefl _)
    · cases z
  have old2 : ∀ {b : Addr} {o : Obj}, s.heap.get? b = some o → b ≠ (s.heap.push { cls := .type "list_iterator", data := .fields #[.ref l, .int 0 0] }).objs.size := fun e => Nat.ne_of_lt (Heap.lt_size (Heap.get?_push_of_some _ e))
  have st0 := W.frame 0 _ ((s.heap.push { cls := .type "list_iterator", data := .fields #[.ref l, .int 0 0] }).push { cls := .type "list", data := .seq #[] }) st fun b _ o e => Heap.get?_push_of_some _ e
  have hS : ((s.heap.push { cls := .type "list_iterator", data := .fields #[.ref l, .int 0 0] }).push { cls := .type "list", data := .seq #[] }).get? (s.heap.push { cls := .type "list_iterator", data := .fields #[.ref l, .int 0 0] }).objs.size = some { cls := .type "list", data := .seq #[] } := Heap.get?_push_size _ rfl
  refine wpAny_pure ⟨plainId_quiet F.plain_max_loop _, ?_⟩
  refine codeAny_builtin F.entry_max_loop ?_
  rw [Around.under_plainId F.plain_max_loop _]
  refine wpAny_bind (m := seqItems? (.ref _)) (wpAny_seqItems hS rfl ?_)
  have szE : (intItems xs).size = xs.size := by simp [intItems]
  by_cases hz : xs.size = 0
  · refine wpAny_bind (wpAny_tryCatch (W.done _ _ _ (by rw [szE, hz]; exact st0) fun h' tk keep => ?_))
    refine wpAny_bind (wpAny_rule (wpAny_pure ?_))
    exact h0 hz h' tk fun b o e => keep b o (old e) (up e)
  · refine wpAny_bind (wpAny_tryCatch (W.item 0 _ _ _ (by rw [szE]; omega) st0 fun v h' tk pv st2 keep => ?_))
    have hS2 := keep _ _ (by simp [Heap.size_push]) hS
    refine wpAny_bind (wpAny_pure ?_)
    refine wpAny_bind ?_
    refine wpAny_updateSeq hS2 rfl ?_
    rw [name]
    refine wpAny_pure ⟨plainId_quiet F.plain_max_loop _, maxKw_turn W _ (CmpOf.ints_gt (numAt xs) (fun _ _ => intItems_at)) _ ne _ 0 _ v _ rfl (by rw [szE]; omega) (W.frame _ _ _ st2 fun b hbf o e => ?_) pv (Heap.get?_update_self _ hS2 rfl) fun v' h2 tk2 p2 k2 => ?_⟩
    · rw [Heap.get?_update_other _ _ (fun z => ne (by rw [z]; exact hbf))]
      exact e
    · rw [szE] at p2
      refine h (by omega) v' h2 tk2 p2 fun b o e => k2 b o (old e) (old2 e) ?_
      rw [Heap.get?_update_other _ _ (Ne.symm (old2 e))]
      exact keep b o (old e) (up e)
end
end PySem
namespace L2.My
open PySem PySem.Spec PyProof.Rows
section
variable {X : Cx}
/-- max(xs, default=d) of a list of ints -/
def rMaxD (K : PySem.W.Frag) : List V → List V → Hp → VK → Prop := fun xs zs H Q => ∃ (a : Addr) (ns : List Int) (d : Int), xs = [.ref a] ∧ zs = [.int d] ∧ SqL K H a (ns.map V.int) ∧ (ns = [] → Q (.int d) H) ∧ ∀ m, m ∈ ns → (∀ y, y ∈ ns → y ≤ m) → Q (.int m) H
theorem cr_maxD (hc : X.calm = true) : CallRK X (.builtin "max") [Str.ofString "default"] (rMaxD X.K) := by
  intro pins s σ H vs zs us ws Q I r rz h
  obtain ⟨a, ns, d, rfl, rfl, hs, q0, q1⟩ := h
  obtain ⟨its, rv, hl, _⟩ := I.list hs
  have hi := rv.ints
  obtain rfl := Vals.ref1 r
  obtain ⟨w1, rfl, e1⟩ := vals1 rz
  obtain ⟨td, rfl⟩ := (show ∃ t, w1 = Value.int d t from e1)
  obtain ⟨xs, e⟩ := hi.allInts.items
  have hn : numsOf (intItems xs).toList = ns := by rw [← e]; exact hi.numsOf
  rw [nums_intItems] at hn
  have hl2 := hl.isList
  rw [e] at hl2
  have ez : ns.length = xs.size := by rw [← hn, List.length_map, Array.length_toList]
  refine PySem.max_intListD (I.ok.hd hc) hl2 (fun h0 h' tk keep => ?_) fun h0 v h' tk hv keep => ?_
  · exact ⟨.int d, H, I.kept keep, ⟨td, rfl⟩, q0 (List.eq_nil_of_length_eq_zero (by rw [ez, h0]))⟩
  · obtain ⟨t, rfl⟩ := intItems_at hv
    obtain ⟨h1, h2⟩ := argBest_gt (numAt xs) (xs.size - 1)
    refine ⟨.int _, H, I.kept keep, ⟨t, rfl⟩, q1 _ ?_ fun y hy => ?_⟩
    · rw [← hn, numAt_eq]
      exact PySem.getD_mem (by rw [List.length_map, Array.length_toList]; omega)
    · rw [← hn] at hy
      obtain ⟨j, hj, rfl⟩ := mem_getD hy
      rw [List.length_map, Array.length_toList] at hj
      rw [← numAt_eq]
      exact h2 j (by omega)
end
end L2.My
end
section
set_option Elab.async false
set_option linter.all false
set_option maxRecDepth 100000
set_option maxHeartbeats 4000000
namespace L2.My
open PySem PySem.Spec PyProof.Rows
theorem same_upd {H : Hp} {p : Addr} {o : HO} (h : H p = none) : Same H (upd H p o) := fun b x e => by
  rw [upd_ne (ne_of_none e h)]
  exact e
theorem keep_ne {H : Hp} {p : Addr} {o : HO} {b : Addr} {x : HO} (h : H p = none) (e : H b = some x) : (upd H p o) b = some x := same_upd h _ _ e
theorem cutTo (xs : List V) (n : Nat) : cutV xs none (some (n : Int)) = xs.take n := by
  unfold cutV
  rw [HT.sIx_none, HT.sIx_nat]
  rw [List.drop_zero, Nat.sub_zero]
  rw [← List.take_eq_take_min]
theorem ixN_zero {n : Nat} (h : 0 < n) : ixN n 0 = some 0 := by
  unfold ixN
  rw [if_pos (by omega), if_pos (by omega)]
  rfl
theorem mod_in {x m : Int} (h : 0 < m) : 0 ≤ x % m ∧ x % m < m := ⟨Int.emod_nonneg _ (by omega), Int.emod_lt_of_pos _ h⟩
inductive ThT (H : Hp) : V → String → Prop where
  | non : ThT H .non "NoneType"
  | bl (b : Bool) : ThT H (.bl b) "bool"
  | int (i : Int) : ThT H (.int i) "int"
  | str (x : Str) : ThT H (.str x) "str"
  | lst {a : Addr} {xs : List V} (h : H a = some (.lst xs)) : ThT H (.ref a) "list"
  | tup {a : Addr} {xs : List V} (h : H a = some (.tup xs)) : ThT H (.ref a) "tuple"
  | dct {a : Addr} {kvs : List (Key × V)} (h : H a = some (.dK kvs)) : ThT H (.ref a) "dict"
def instT (t n : String) : Bool := t == n || (t == "bool" && n == "int")
theorem ThT.tyX {K : PySem.W.Frag} {H : Hp} {v : V} {t : String} (h : ThT H v t) : TyX K H v (.type t) := by
  cases h with
  | non => exact .base .non
  | bl b => exact .base (.bl b)
  | int i => exact .base (.int i)
  | str x => exact .base (.str x)
  | lst h => exact .base (.lst h)
  | tup h => exact .base (.tup h)
  | dct h => exact .base (.dK h)
theorem kitB_all : ∀ t ∈ ["NoneType", "bool", "int", "str", "list", "tuple", "dict"], ∀ n ∈ ["bool", "int", "str", "list", "tuple", "dict"], kitB t n = some (instT t n) := by decide +kernel
theorem ThT.mem {H : Hp} {v : V} {t : String} (h : ThT H v t) : t ∈ ["NoneType", "bool", "int", "str", "list", "tuple", "dict"] := by
  cases h <;> decide
theorem ThT.keep {H H' : Hp} {v : V} {t : String} (h : ThT H v t) (s : Same H H') : ThT H' v t := by
  cases h with
  | non => exact .non
  | bl b => exact .bl b
  | int i => exact .int i
  | str x => exact .str x
  | lst h => exact .lst (s _ _ h)
  | tup h => exact .tup (s _ _ h)
  | dct h => exact .dct (s _ _ h)
def rIsTh : List V → Hp → VK → Prop := fun xs H Q => ∃ v n t, xs = [v, .ty n] ∧ ThT H v t ∧ n ∈ ["bool", "int", "str", "list", "tuple", "dict"] ∧ Q (.bl (instT t n)) H
theorem call_isTh {X : Cx} : CallR X (.builtin "isinstance") rIsTh := by
  intro pins s σ H xs us Q I r h
  obtain ⟨v, n, t, rfl, ht, hn, q⟩ := h
  exact call_isi pins s σ H _ us Q I r ⟨_, _, _, _, _, rfl, .ty _, ht.tyX, kit_ty (kitB_all t ht.mem n hn), q⟩
def belowV (n : Int) : V → Bool
  | .int i => decide (0 ≤ i ∧ i < n)
  | _ => false
theorem lt1 (a b : Nat) : decide (([a] : List Nat) < [b]) = decide (a < b) := by
  by_cases h : a < b
  · rw [decide_eq_true h, decide_eq_true (by exact List.Lex.rel h)]
  · rw [decide_eq_false h]
    refine decide_eq_false fun z => ?_
    rcases (List.cons_lt_cons_iff.mp z) with z | z
    · exact h z
    · exact absurd z.2 (by simp)
theorem seq_set {te : TE} {i : Nat} {u : TS} {D : Ends} {σ : St} {H : Hp} (h : te σ H fun v H1 => u D (σ.set i (some v)) H1) : tSeq (tAsg te (gName i)) u D σ H := h
theorem seq_par3 {ta : TA} {i j l : Nat} {u : TS} {D : Ends} {σ : St} {H : Hp} (h : ta σ H fun vs H1 => ∃ x y z, vs = [x, y, z] ∧ u D (((σ.set i (some x)).set j (some y)).set l (some z)) H1) : tSeq (tPar3 i j l ta) u D σ H := h
theorem seq_par {ta : TA} {i j : Nat} {u : TS} {D : Ends} {σ : St} {H : Hp} (h : ta σ H fun vs H1 => ∃ x y, vs = [x, y] ∧ u D ((σ.set i (some x)).set j (some y)) H1) : tSeq (tPar i j ta) u D σ H := h
theorem ret_of {te : TE} {D : Ends} {σ : St} {H : Hp} (h : te σ H D.rt) : tRet te D σ H := h
theorem lst_of {ta : TA} {σ : St} {H : Hp} {Q : VK} (h : ta σ H fun xs H1 => xs.length ≤ sizeLine ∧ ∀ p, H1 p = none → Q (.ref p) (upd H1 p (.lst xs))) : tLst ta σ H Q := h
theorem tup_of {ta : TA} {σ : St} {H : Hp} {Q : VK} (h : ta σ H fun xs H1 => xs.length ≤ sizeLine ∧ ∀ p, H1 p = none → Q (.ref p) (upd H1 p (.tup xs))) : tTup ta σ H Q := h
theorem cons_of {te : TE} {ta : TA} {σ : St} {H : Hp} {Q : List V → Hp → Prop} (h : te σ H fun x H1 => ta σ H1 fun xs H2 => Q (x :: xs) H2) : tCons te ta σ H Q := h
theorem nil_of {σ : St} {H : Hp} {Q : List V → Hp → Prop} (h : Q [] H) : tNil σ H Q := h
section
variable {J : It} {n : Nat} {G : Hp → Prop} {Y : Nat → Hp → V → Hp → Prop}
def CompOut (J : It) (g : TG) (tt : TT) (te : TE) (vs : List Nat) (σ : St) (D : Addr) (Qd : Hp → Prop) (H1 : Hp) : Prop :=
    ∃ W : Nat → Nat → Hp → Prop, (∃ m, W 0 m (upd H1 D (.lst []))) ∧ ∀ i m H, W i m H →
      (J.stop i H ∧ Qd H) ∨ (J.go i H ∧ ∃ Nx : Hp → Prop, (∀ H', Nx H' → ∃ m', m' < m ∧ W (i + 1) m' H') ∧ ∀ x H', J.yld i H x H' → g x (wipe σ vs) H' fun σ2 H2 => wipe σ2 vs = wipe σ vs ∧ tt σ2 H2 fun b H3 =>
        if b = true then te σ2 H3 fun y H4 => ∃ acc, H4 D = some (.lst acc) ∧ acc.length < sizeLine ∧ Nx (upd H4 D (.lst (acc ++ [y]))) else Nx H3)
theorem range_map_snoc {α : Type} (f : Nat → α) (i : Nat) : (List.range i).map f ++ [f i] = (List.range (i + 1)).map f := by
  rw [List.range_succ, List.map_append]; rfl
theorem range_fm_snoc {α : Type} (f : Nat → Option α) (i : Nat) {v : α} (h : f i = some v) : (List.range i).filterMap f ++ [v] = (List.range (i + 1)).filterMap f := by
  rw [List.range_succ, List.filterMap_append]; simp [h]
theorem range_fm_skip {α : Type} (f : Nat → Option α) (i : Nat) (h : f i = none) : (List.range i).filterMap f = (List.range (i + 1)).filterMap f := by
  rw [List.range_succ, List.filterMap_append]; simp [h]
theorem same_grow {H H4 H1 : Hp} {D : Addr} {o : HO} (s : Same H H4) (hD : H1 D = none) (s1 : Same H1 H) : Same H1 (upd H4 D o) := fun b u e => by
  rw [upd_ne (ne_of_none e hD)]
  exact s _ _ (s1 _ _ e)
theorem lcP (w : Walk J n G Y) {g : TG} {te : TE} {vs : List Nat} {σ : St} {H1 : Hp} {D : Addr} {Qd : Hp → Prop} (fv : Nat → V) (hn : n < sizeLine) (hD : H1 D = none) (hG : ∀ H', Same H1 H' → G H')
    (hs : ∀ i x H H' (Q' : VK), i < n → Same H1 H → Y i H x H' → (∀ H4, Same H H4 → Q' (fv i) H4) → g x (wipe σ vs) H' fun σ2 H2 => wipe σ2 vs = wipe σ vs ∧ te σ2 H2 Q')
    (hd : ∀ H, Same H1 H → H D = some (.lst ((List.range n).map fv)) → Qd H) : CompOut J g tYes te vs σ D Qd H1 := by
  refine lc_it w (tt := tYes) (fun i H => Same H1 H ∧ H D = some (.lst ((List.range i).map fv))) ⟨same_upd hD, upd_same⟩ (fun i H _ h => hG H h.1) ?_ (fun H h => hd H h.1 h.2)
  rintro i x H H' hi ⟨sm, hd'⟩ y
  have q := hs i x H H' (fun v H4 => ∃ acc, H4 D = some (.lst acc) ∧ acc.length < sizeLine ∧ Same H1 (upd H4 D (.lst (acc ++ [v]))) ∧ (upd H4 D (.lst (acc ++ [v]))) D = some (.lst ((List.range (i + 1)).map fv))) hi sm y
    (fun H4 s4 => ⟨_, s4 _ _ hd', by rw [List.length_map, List.length_range]; omega, same_grow s4 hD sm, by rw [upd_same, range_map_snoc]⟩)
  exact q
theorem lcF (w : Walk J n G Y) {g : TG} {tt : TT} {te : TE} {vs : List Nat} {σ : St} {H1 : Hp} {D : Addr} {Qd : Hp → Prop} (fv : Nat → Option V) (hn : n < sizeLine) (hD : H1 D = none) (hG : ∀ H', Same H1 H' → G H')
    (hs : ∀ i x H H' (Q' : VK) (N' : Hp → Prop), i < n → Same H1 H → Y i H x H' → (∀ v, fv i = some v → ∀ H4, Same H H4 → Q' v H4) → (fv i = none → ∀ H4, Same H H4 → N' H4) →
      g x (wipe σ vs) H' fun σ2 H2 => wipe σ2 vs = wipe σ vs ∧ tt σ2 H2 fun b H3 => if b = true then te σ2 H3 Q' else N' H3)
    (hd : ∀ H, Same H1 H → H D = some (.lst ((List.range n).filterMap fv)) → Qd H) : CompOut J g tt te vs σ D Qd H1 := by
  refine lc_it w (fun i H => Same H1 H ∧ H D = some (.lst ((List.range i).filterMap fv))) ⟨same_upd hD, upd_same⟩ (fun i H _ h => hG H h.1) ?_ (fun H h => hd H h.1 h.2)
  rintro i x H H' hi ⟨sm, hd'⟩ y
  have hl : ((List.range i).filterMap fv).length < sizeLine := by
    have := List.length_filterMap_le fv (List.range i)
    rw [List.length_range] at this
    omega
  have q := hs i x H H' (fun v H4 => ∃ acc, H4 D = some (.lst acc) ∧ acc.length < sizeLine ∧ Same H1 (upd H4 D (.lst (acc ++ [v]))) ∧ (upd H4 D (.lst (acc ++ [v]))) D = some (.lst ((List.range (i + 1)).filterMap fv)))
    (fun H4 => Same H1 H4 ∧ H4 D = some (.lst ((List.range (i + 1)).filterMap fv))) hi sm y
    (fun v hv H4 s4 => ⟨_, s4 _ _ hd', hl, same_grow s4 hD sm, by rw [upd_same, range_fm_snoc fv i hv]⟩) (fun hv H4 s4 => ⟨sm.trans s4, by rw [← range_fm_skip fv i hv]; exact s4 _ _ hd'⟩)
  exact q
end
def BL (L : List Addr) (H H' : Hp) : Prop := ∀ p o, p ∉ L → H p = some o → H' p = some o
theorem BL.refl {L : List Addr} {H : Hp} : BL L H H := fun _ _ _ h => h
theorem BL.trans {L : List Addr} {H H1 H2 : Hp} (x : BL L H H1) (y : BL L H1 H2) : BL L H H2 := fun p o h e => y p o h (x p o h e)
theorem BL.same {L : List Addr} {H H' : Hp} (s : Same H H') : BL L H H' := fun p o _ e => s _ _ e
theorem BL.upd {L : List Addr} {H : Hp} {p : Addr} {o : HO} (h : p ∈ L) : BL L H (upd H p o) := fun q u hq e => by
  rw [upd_ne (fun z => hq (by rw [z]; exact h))]; exact e
theorem u65 {k : Nat} {A : Around} (h : Room k A) : A.units + 65 < cLine := by have := h.un; omega
theorem u1 {k : Nat} {A : Around} (h : Room k A) : A.units + 1 < cLine := by have := h.un; omega
def kD : Key → PyData
  | .inl i => .int i
  | .inr x => .str x
def pD (ks : List Key) : PyData := .tuple (ks.map kD)
theorem eqvAll_map {α : Type} [DecidableEq α] {f : α → PyData} (h : ∀ a b, PyData.eqv (f a) (f b) = decide (a = b)) : ∀ xs ys : List α, PyData.eqvAll (xs.map f) (ys.map f) = decide (xs = ys)
  | [], [] => by simp [PyData.eqvAll]
  | [], y :: ys => by simp [PyData.eqvAll]
  | x :: xs, [] => by simp [PyData.eqvAll]
  | x :: xs, y :: ys => by
    rw [List.map_cons, List.map_cons, PyData.eqvAll, h, eqvAll_map h xs ys]
    by_cases h1 : x = y
    · by_cases h2 : xs = ys
      · simp [h1, h2]
      · simp [h1, h2]
    · simp [h1]
theorem eqv_k (a b : Key) : PyData.eqv (kD a) (kD b) = decide (a = b) := by
  cases a with
  | inl i => cases b with
    | inl j =>
      show PyData.eqv (.int i) (.int j) = _
      rw [PyData.eqv]
      by_cases h : i = j
      · subst h; simp
      · have : ¬ (Sum.inl i : Key) = Sum.inl j := fun z => h (Sum.inl.inj z)
        rw [decide_eq_false this]; simp [h]
    | inr y =>
      show PyData.eqv (.int i) (.str y) = _
      rw [decide_eq_false (fun z => nomatch z)]; simp [PyData.eqv]
  | inr x => cases b with
    | inl j =>
      show PyData.eqv (.str x) (.int j) = _
      rw [decide_eq_false (fun z => nomatch z)]; simp [PyData.eqv]
    | inr y =>
      show PyData.eqv (.str x) (.str y) = _
      rw [PyData.eqv]
      by_cases h : x = y
      · subst h; simp
      · have : ¬ (Sum.inr x : Key) = Sum.inr y := fun z => h (Sum.inr.inj z)
        rw [decide_eq_false this]; exact beq_eq_false_iff_ne.mpr h
theorem eqv_p (a b : List Key) : PyData.eqv (pD a) (pD b) = decide (a = b) := by
  unfold pD
  rw [PyData.eqv]
  exact eqvAll_map eqv_k a b
theorem eqv_s (x y : Str) : PyData.eqv (.str x) (.str y) = decide (x = y) := by
  have := eqv_k (.inr x) (.inr y)
  rw [show PyData.eqv (.str x) (.str y) = PyData.eqv (kD (.inr x)) (kD (.inr y)) from rfl, this]
  exact key_rr x y
def rLen (K : PySem.W.Frag) : List V → Hp → VK → Prop := fun xs H Q => ∃ p ys, xs = [.ref p] ∧ (SqL K H p ys ∨ SqT K H p ys) ∧ Q (.int ys.length) H
theorem can_map {α : Type} {f : α → PyData} : ∀ {xs : List α}, (∀ x ∈ xs, PyData.canLay0 (f x) = true) → PyData.canLayAll0 (xs.map f) = true
  | [], _ => by simp [PyData.canLayAll0]
  | x :: r, h => by
    have := can_map (f := f) (xs := r) fun y hy => h y (List.mem_cons_of_mem _ hy)
    simp [PyData.canLayAll0, this, h x List.mem_cons_self]
theorem dep_map {α : Type} {f : α → PyData} {n : Nat} (h : ∀ x, PyData.depth (f x) ≤ n) : ∀ xs : List α, PyData.depthAll (xs.map f) ≤ n
  | [] => by simp [PyData.depthAll]
  | x :: r => by
    have h1 := dep_map h r
    have h2 := h x
    simp only [List.map_cons, PyData.depthAll]
    omega
theorem shaped_list {α : Type} {f : α → PyData} {n : Nat} (hn : n < 64) (hd : ∀ x, PyData.depth (f x) ≤ n) {xs : List α} (hc : ∀ x ∈ xs, PyData.canLay0 (f x) = true) : SeqAt.shaped (.list (xs.map f)) = true := by
  have h1 := can_map hc
  have h2 := dep_map hd xs
  simp only [SeqAt.shaped, PyData.canLay0, PyData.depth, Bool.and_eq_true, decide_eq_true_eq]
  exact ⟨h1, decide_eq_true (by omega)⟩
theorem shaped_ints (xs : List Int) : SeqAt.shaped (.list (xs.map .int)) = true := shaped_list (n := 1) (by decide) (fun x => by simp [PyData.depth]) fun e he => by simp [PyData.canLay0]
theorem dp_ints {K : PySem.W.Frag} {H : Hp} : ∀ xs : List Int, DpAll K H (xs.map .int) (xs.map .int)
  | [] => .nil
  | x :: r => .cons (.int x) (dp_ints r)
theorem seqT {K : PySem.W.Frag} {H H' : Hp} {a : Addr} {xs : List V} (e : Same H H') (h : SqT K H a xs) : SqT K H' a xs := by
  rcases h with (h | ⟨o, h⟩) | h
  · exact .inl (.inl (e _ _ h))
  · exact .inl (.inr ⟨o, e _ _ h⟩)
  · exact .inr h
end L2.My
end
section
set_option Elab.async false
set_option linter.all false
set_option maxRecDepth 100000
set_option maxHeartbeats 4000000
/-! enumerate of a tuple, of a dict; setdefault and comprehensions of dicts with tuple keys. -/
namespace PySem
open PySem.Spec PyProof.Rows
section
variable {prog : Program} {w : World} {A : Around} {E : Value → Shared → Prop} {s : Shared}
/-- the next key of a dict's iterator, as another iterator draws it -/
theorem my_keyNext {it d : Addr} {i n ep : Nat} {od : Obj} {es : Array DictEntry} {en : DictEntry} {Q : Value → Shared → Prop} (hit : s.heap.IsKeyIter it d i n ep) (hod : s.heap.get? d = some od) (hdd : od.data = .dict es ep)
    (hsz : es.size = n) (hx : es[i]? = some en) (hQ : ∀ h', h'.IsKeyIter it d (i + 1) n ep → Heap.SameBut it s.heap h' → Q en.key { s with heap := h' }) : wpAny (model prog w) A (Builtin.SmallTypes.nextOf (.ref it)) Q E s := by
  obtain ⟨o, ho, hc, hd⟩ := id hit
  unfold Builtin.SmallTypes.nextOf
  refine wpAny_bind (wpAny_callSpecial?_slot (name := Str.ofString "__next__") hit.typeIs F.slot_dict_keyiterator_next (wpAny_call_entry F.slot_dict_keyiterator_next hit.typeIs F.entry_dict_keyiterator_next ?_ (F.args_dict_keyiterator_next_1 _)))
  refine wpAny_bind (wpAny_pure (wpAny_bind (wpAny_bind ?_)))
  first | refine wpAny_bind (wpAny_typeNameOfWhole_keyiter hit.typeIs (wpAny_pure (wpAny_bind (wpAny_fieldsOf ho hd ?_)))) | refine wpAny_bind (wpAny_typeNameOf_keyiter hit.typeIs (wpAny_pure (wpAny_bind (wpAny_fieldsOf ho hd ?_))))
  have own : Builtin.Dict_items.ownsTuple "dict_keyiterator" = false := by decide
  simp only [own, Bool.false_eq_true, if_false]
  show wpAny _ _ (if (Value.ref d == Value.none) = true then _ else _) _ _ _
  rw [if_neg (show ¬ (Value.ref d == Value.none) = true from fun z => nomatch z)]
  refine wpAny_bind (wpAny_pure (wpAny_bind (wpAny_dictEntries hod hdd ?_)))
  rw [if_neg (by simp [hsz])]
  refine wpAny_bind (wpAny_pure (wpAny_bind (wpAny_dictEpoch hod hdd ?_)))
  rw [if_neg (by simp)]
  refine wpAny_pure ?_
  obtain ⟨lt, hen⟩ := Array.getElem?_eq_some_iff.mp hx
  simp only [show ¬ ((i : Int) < 0) by omega, if_false, Int.toNat_natCast, Array.getElem?_eq_getElem lt]
  refine wpAny_bind ?_
  first | refine wpAny_bind (wpAny_typeNameOfWhole_keyiter hit.typeIs (wpAny_pure (wpAny_bind (wpAny_isOneOf_keyiter hit.typeIs ?_)))) | refine wpAny_bind (wpAny_typeNameOf_keyiter hit.typeIs (wpAny_pure (wpAny_bind (wpAny_isOneOf_keyiter hit.typeIs ?_))))
  show wpAny _ _ (setField (.ref it) 1 (rawInt ((i : Int) + 1)) >>= _) _ _ _
  refine wpAny_bind (wpAny_setField ho hd (by simp) ?_)
  have hit2 : (s.heap.update it (Obj.mapFields (·.setIfInBounds 1 (rawInt ((i : Int) + 1))))).IsKeyIter it d (i + 1) n ep := ⟨_, Heap.get?_update_self _ ho (Obj.isFreed_of_fields (Obj.data_mapFields hd _)), (Obj.cls_mapFields ..).trans hc, by rw [Obj.data_mapFields hd]; simp [rawInt]⟩
  refine wpAny_bind (wpAny_holding (wpAny_bind (wpAny_isOneOf_keyiter (s := { s with heap := s.heap.update it (Obj.mapFields (·.setIfInBounds 1 (rawInt ((i : Int) + 1)))) }) hit2.typeIs ?_)))
  show wpAny _ _ (pure es[i].key) _ _ _
  rw [hen]
  exact wpAny_pure (wpAny_pure ⟨_, rfl, wpAny_pure (hQ _ hit2 (Heap.SameBut.update ..))⟩)
theorem my_keyEnd {it d : Addr} {i n ep : Nat} {od : Obj} {es : Array DictEntry} {Q : Value → Shared → Prop} (hh : A.handled = none) (hit : s.heap.IsKeyIter it d i n ep) (hod : s.heap.get? d = some od) (hdd : od.data = .dict es ep)
    (hsz : es.size = n) (hge : n ≤ i) (hE : ∀ h' e, Heap.ExtBut it s.heap h' → (∃ o, h'.get? e = some o ∧ o.cls = .type "StopIteration") → E (.ref e) { s with heap := h' }) : wpAny (model prog w) A (Builtin.SmallTypes.nextOf (.ref it)) Q E s := by
  obtain ⟨o, ho, hc, hd⟩ := id hit
  unfold Builtin.SmallTypes.nextOf
  refine wpAny_bind (wpAny_callSpecial?_slot (name := Str.ofString "__next__") hit.typeIs F.slot_dict_keyiterator_next (wpAny_call_entry F.slot_dict_keyiterator_next hit.typeIs F.entry_dict_keyiterator_next ?_ (F.args_dict_keyiterator_next_1 _)))
  refine wpAny_bind (wpAny_pure (wpAny_bind (wpAny_bind ?_)))
  first | refine wpAny_bind (wpAny_typeNameOfWhole_keyiter hit.typeIs (wpAny_pure (wpAny_bind (wpAny_fieldsOf ho hd ?_)))) | refine wpAny_bind (wpAny_typeNameOf_keyiter hit.typeIs (wpAny_pure (wpAny_bind (wpAny_fieldsOf ho hd ?_))))
  have own : Builtin.Dict_items.ownsTuple "dict_keyiterator" = false := by decide
  simp only [own, Bool.false_eq_true, if_false]
  show wpAny _ _ (if (Value.ref d == Value.none) = true then _ else _) _ _ _
  rw [if_neg (show ¬ (Value.ref d == Value.none) = true from fun z => nomatch z)]
  refine wpAny_bind (wpAny_pure (wpAny_bind (wpAny_dictEntries hod hdd ?_)))
  rw [if_neg (by simp [hsz])]
  refine wpAny_bind (wpAny_pure (wpAny_bind (wpAny_dictEpoch hod hdd ?_)))
  rw [if_neg (by simp)]
  refine wpAny_pure ?_
  have ge2 : es.size ≤ i := by omega
  simp only [show ¬ ((i : Int) < 0) by omega, if_false, Int.toNat_natCast, Array.getElem?_eq_none ge2]
  refine wpAny_bind ?_
  first | refine wpAny_bind (wpAny_typeNameOfWhole_keyiter hit.typeIs (wpAny_pure ?_)) | refine wpAny_bind (wpAny_typeNameOf_keyiter hit.typeIs (wpAny_pure ?_))
  show wpAny _ _ (setField (.ref it) 0 .none >>= _) _ _ _
  refine wpAny_bind (wpAny_setField ho hd (by simp) ?_)
  show wpAny _ _ (newExc (.type "StopIteration") [] >>= _) _ _ _
  simp only [newExc, newTuple]
  refine wpAny_bind (wpAny_bind (wpAny_newObj_type ?_ (by size_fits)))
  refine wpAny_bind (m := firstArgMember _ _) (wpAny_of_eq (a := Value.none) (by first | rfl | (simp only [firstArgMember]; rfl)) (wpAny_newObj_type ?_ (by size_fits)))
  simp only [raiseNew]
  refine wpAny_bind (wpAny_handled ?_)
  first | rw [show A.in1.handled = none from hh] | rw [hh]
  refine wpAny_bind (wpAny_pure (wpAny_throw ?_))
  exact hE _ _ (((Heap.SameBut.update ..).extBut.push _).push _) ⟨_, Heap.get?_push_size _ rfl, rfl⟩
end
theorem my_drawKeys {prog : Program} {w : World} {A : Around} (hh : A.handled = none) (it d : Addr) (hne : d ≠ it) (od : Obj) (es : Array DictEntry) (ep : Nat) (hdd : od.data = .dict es ep) :
    Draws prog w A it [it, d] es.size (fun i v => ∃ en, es[i]? = some en ∧ v = en.key) (fun i h => h.IsKeyIter it d i es.size ep ∧ h.get? d = some od) where
  live := fun _ _ st => let ⟨o, ho, _⟩ := st.1; ⟨o, ho⟩
  frame := fun _ _ _ st hk => ⟨st.1.at fun o e => hk it (by simp) o e, hk d (by simp) _ st.2⟩
  item := fun i s Q E hi st hQ => my_keyNext st.1 st.2 hdd rfl (en := es[i]) (by simp [hi]) fun h' hit' hs' => hQ _ h' s.toks ⟨es[i], by simp [hi], rfl⟩ ⟨hit', (hs'.2 d hne).trans st.2⟩ hs'
  done := fun s Q E st hE => my_keyEnd hh st.1 st.2 hdd rfl (Nat.le_refl _) hE
set_option maxHeartbeats 1000000 in
theorem my_enumNew {v : Value} {o : Obj} {H : Heap → Prop} (B : Begins v o H) :
    Meets (Builtin.«enumerate.__new__» ⟨[.type "enumerate", v], []⟩) (fun _ R s => H s.heap ∧ R (.ok (.ret (.ref (s.heap.push o).objs.size))) { s with heap := (s.heap.push o).push { cls := .type "enumerate", data := .fields #[.none, .bool false, .ref s.heap.objs.size, rawInt 0, .none, .none] } }) :=
  .of_wp fun prog w A R s h => by
    obtain ⟨hp, g, dr, tk, os⟩ := s
    obtain ⟨h1, h⟩ := h
    have hsub := sub_enumerate
    have q1 : ∀ {A' : Around} {E Q : Value → Shared → Prop}, Q (.ref hp.objs.size) ⟨hp.push o, g, dr, tk, os⟩ → wpAny (model prog w) A' (pyIter v) Q E ⟨hp, g, dr, tk, os⟩ := fun q => B.iter prog w _ _ ⟨hp, g, dr, tk, os⟩ _ h1 q
    wp_walk using q1
    refine wpAny_stack_any fun _ => wpAny_pure ?_
    split
    · rename_i c _ _ _ _ _
      cases (c == Value.type "enumerate") <;> (wp_walk using q1; exact ⟨_, rfl, h⟩)
    · wp_walk using q1; exact ⟨_, rfl, h⟩
theorem my_enum {prog : Program} {w : World} {A : Around} {E : Value → Shared → Prop} {s : Shared} {v : Value} {o : Obj} {H : Heap → Prop} {Q : Value → Shared → Prop} (B : Begins v o H) (h1 : H s.heap)
    (h : ∀ h', IsEnum h' (s.heap.objs.size + 1) s.heap.objs.size 0 .none → h'.get? s.heap.objs.size = some o → (∀ b o, s.heap.get? b = some o → h'.get? b = some o) → Q (.ref (s.heap.objs.size + 1)) { s with heap := h' }) :
    wpAny (model prog w) A (call (.type "enumerate") [v]) Q E s := by
  refine callType_new F.called_enumerate (by decide) (F.typeCall_enumerate_1 _) (F.newCall_enumerate_1 _) (fun obj => F.args_object_init_2 obj _) F.entry_enumerate_new (my_enumNew B) ⟨h1, ?_⟩
  have hz : (s.heap.push o).objs.size = s.heap.objs.size + 1 := Heap.size_push ..
  have he := Heap.get?_push_size (s.heap.push o) (o := { cls := .type "enumerate", data := .fields #[.none, .bool false, .ref s.heap.objs.size, rawInt 0, .none, .none] }) rfl
  show _ ∧ _
  rw [hz] at he ⊢
  exact ⟨⟨_, he, rfl⟩, h _ he (Heap.get?_push_of_some _ (Heap.get?_push_size _ B.free)) fun b o x => Heap.get?_push_of_some _ (Heap.get?_push_of_some _ x)⟩
end PySem
end
section
set_option Elab.async false
set_option linter.all false
set_option maxRecDepth 100000
set_option maxHeartbeats 4000000
namespace L2.My
open PySem PySem.Spec PyProof.Rows
/-- the tuple at a, counted, each item in a new pair -/
def IteT (K : PySem.W.Frag) (a : Addr) : It :=
  ⟨fun i H => ∃ (xs : List V) (x : V), SqT K H a xs ∧ xs[i]? = some x, fun i H v H' => ∃ T x, v = .ref T ∧ H T = none ∧ H' = upd H T (.tup [.int (i : Nat), x]) ∧ ∀ xs, SqT K H a xs → xs[i]? = some x, fun i H => ∃ xs : List V, SqT K H a xs ∧ xs.length = i⟩
/-- the keys of the locked dict at d, counted -/
def IteK (d : Addr) (od : Obj) (kvs : List (List Key × V)) : It :=
  ⟨fun i H => H d = some (.frz od (.dT kvs)) ∧ i < kvs.length, fun i H v H' => ∃ T q k x, v = .ref T ∧ H T = none ∧ H' = upd H T (.tup [.int (i : Nat), .ref q]) ∧ kvs[i]? = some (k, x) ∧ H q = some (.tup (k.map kV)), fun i H => H d = some (.frz od (.dT kvs)) ∧ kvs.length = i⟩
section
variable {P : Program} {w : World} {K : PySem.W.Frag} {elts : List Expr} {kk : Nat} {tpos : Pos}
theorem turn_enT (a e it : Addr) : Turn P w K (.Tuple elts kk tpos) (IteT K a) [e, it] e (fun i h => (∃ old, IsEnum h e it ((i : Nat) : Int) old) ∧ h.IsTupleIter it a i ∧ e ≠ it ∧ a ≠ it ∧ a ≠ e) where
  mem := by simp
  obj := fun i h st b hb => by
    obtain ⟨⟨old, he⟩, ⟨o, ho, hc, hd⟩, _⟩ := st
    rcases (show b = e ∨ b = it by simpa using hb) with rfl | rfl
    · exact ⟨_, he, fun v q => nomatch q⟩
    · exact ⟨o, ho, fun v q => by rw [hd] at q; cases q⟩
  keep := fun i h h' st k => let ⟨⟨old, he⟩, hi, r⟩ := st; ⟨⟨old, k e (by simp) _ he⟩, hi.at fun o q => k it (by simp) o q, r⟩
  item := by
    intro X hP hw hK hc i pins s σ H E I hf st hg
    subst hP hw hK
    obtain ⟨⟨old, he⟩, hit, hne, hai, hae⟩ := st
    obtain ⟨xs, x, hq, hx⟩ := hg
    obtain ⟨its, rv, p, hz⟩ := I.tuple hq
    obtain ⟨u, hu, ru⟩ := rv.get hx
    have hel : e < s.heap.objs.size := Heap.lt_size he
    have hil : it < s.heap.objs.size := by obtain ⟨_, q, _⟩ := hit; exact Heap.lt_size q
    have lt : i < its.toArray.size := by
      have := (List.getElem?_eq_some_iff.mp hu).1
      simpa using this
    refine wpAny_pyNext_enum_itemC (Draws.tuple (prog := X.prog) (w := X.w) (A := X.A.in1) (I.ok.hd hc) it a hai its.toArray) he ⟨hit, p⟩ lt hne (by simp [hne, Ne.symm hae]) fun y h' tk hP ho hs' hT hsz hk => ?_
    obtain rfl : y = u := by
      have z : its.toArray[i]? = some u := by simpa using hu
      exact Option.some.inj (hP.symm.trans z)
    refine ⟨_, rfl, wpAny_letOwnedTupleGo_enum (s := { s with heap := h', toks := tk + 1 }) ho fun h2 he2 sb => ?_⟩
    have hT2 : h2.get? s.heap.objs.size = some { cls := .type "tuple", data := .seq #[.int i tk, y] } := (sb.2 _ (Nat.ne_of_gt hel)).trans hT
    have new : ObjOk X.prog X.w (upd H s.heap.objs.size (.tup [.int (i : Nat), x])) h2 s.heap.objs.size (.tup [.int (i : Nat), x]) := ⟨by show 2 ≤ sizeLine; decide, [.int i tk, y], .cons ⟨_, rfl⟩ (.cons ru .nil), ⟨_, hT2, rfl, _, rfl⟩⟩
    have I1 : Inv X pins σ (upd H s.heap.objs.size (.tup [.int (i : Nat), x])) { s with heap := h2, toks := tk + 1 } :=
      I.turnedNew (t' := tk + 1) (ch := [e, it]) (fun b ob hb q => (sb.2 b (fun z => hb (by simp [z]))).trans (hk b ob (fun z => hb (by simp [z])) (fun z => hb (by simp [z])) q)) hf (Nat.le_refl _) new
    refine ⟨.ref s.heap.objs.size, _, I1, rfl, ⟨_, x, rfl, I.hok.fresh (Nat.le_refl _), rfl, fun ys hy => by rw [I.tuple_inj hy hq]; exact hx⟩, ⟨⟨y, ?_⟩, hs'.1.at fun o q => (sb.2 it (Ne.symm hne)).trans q, hne, hai, hae⟩, fun b hb => ?_⟩
    · have e1 : ((i + 1 : Nat) : Int) = (i : Int) + 1 := by omega
      rw [e1]; exact he2
    · have hb' : b < s.heap.objs.size := by
        rcases (show b = e ∨ b = it by simpa using hb) with rfl | rfl
        · exact hel
        · exact hil
      rw [upd_ne (Nat.ne_of_lt hb')]
      exact (hf b hb).1
  done := by
    intro X hP hw hK hc i pins s σ H E I hf st hg
    subst hP hw hK
    obtain ⟨⟨old, he⟩, hit, hne, hai, hae⟩ := st
    obtain ⟨xs, hq, hx⟩ := hg
    obtain ⟨its, rv, p, hz⟩ := I.tuple hq
    obtain ⟨f0, f1, f2, f3, f4, f5⟩ := hf it (by simp)
    have hl := rv.length
    have ei : its.toArray.size = i := by simp; omega
    subst ei
    exact wpAny_pyNext_enum_endD (Draws.tuple (prog := X.prog) (w := X.w) (A := X.A.in1) (I.ok.hd hc) it a hai its.toArray) he ⟨hit, p⟩ fun h' eb => ⟨rfl, I.turned (t' := s.toks) (fun b o hb q => eb b o hb q) f0 f1 f3 f4 f5⟩
  self := fun A i s Q E st h => let ⟨⟨_, he⟩, _⟩ := st; wpAny_pyIter_enum he h
theorem turn_enK {d : Addr} {od : Obj} {es : Array DictEntry} {ep : Nat} {kvs : List (List Key × V)} (hdd : od.data = .dict es ep) (hsz : es.size = kvs.length) (e it : Addr) : Turn P w K (.Tuple elts kk tpos) (IteK d od kvs) [e, it] e (fun i h => (∃ old, IsEnum h e it ((i : Nat) : Int) old) ∧ h.IsKeyIter it d i es.size ep ∧ e ≠ it ∧ d ≠ it ∧ d ≠ e) where
  mem := by simp
  obj := fun i h st b hb => by
    obtain ⟨⟨old, he⟩, ⟨o, ho, hc, hd⟩, _⟩ := st
    rcases (show b = e ∨ b = it by simpa using hb) with rfl | rfl
    · exact ⟨_, he, fun v q => nomatch q⟩
    · exact ⟨o, ho, fun v q => by rw [hd] at q; cases q⟩
  keep := fun i h h' st k => let ⟨⟨old, he⟩, hi, r⟩ := st; ⟨⟨old, k e (by simp) _ he⟩, hi.at fun o q => k it (by simp) o q, r⟩
  item := by
    intro X hP hw hK hc i pins s σ H E I hf st hg
    subst hP hw hK
    obtain ⟨⟨old, he⟩, hit, hne, hai, hae⟩ := st
    obtain ⟨hd, hi⟩ := hg
    obtain ⟨hs, hgd, hx, es', ep', hdt, hsz', ent⟩ := I.frzT hd
    obtain ⟨ee1, ee2⟩ := dict_ep hdt hdd
    subst ee1 ee2
    obtain ⟨⟨k, x⟩, hkv⟩ : ∃ p, kvs[i]? = some p := ⟨kvs[i], List.getElem?_eq_getElem hi⟩
    obtain ⟨en, q, hen, hkey, hq⟩ := ent i k x hkv
    have hel : e < s.heap.objs.size := Heap.lt_size he
    have hil : it < s.heap.objs.size := by obtain ⟨_, q, _⟩ := hit; exact Heap.lt_size q
    refine wpAny_pyNext_enum_itemC (my_drawKeys (prog := X.prog) (w := X.w) (A := X.A.in1) (I.ok.hd hc) it d hai od es ep hdd) he ⟨hit, hgd⟩ (by omega) hne (by simp [hne, Ne.symm hae]) fun y h' tk hP ho hs' hT hsz2 hk => ?_
    obtain ⟨en2, hen2, rfl⟩ := hP
    rw [hen] at hen2
    cases hen2
    rw [hkey] at ho hT
    refine ⟨_, rfl, wpAny_letOwnedTupleGo_enum (s := { s with heap := h', toks := tk + 1 }) ho fun h2 he2 sb => ?_⟩
    have hT2 : h2.get? s.heap.objs.size = some { cls := .type "tuple", data := .seq #[.int i tk, .ref q] } := (sb.2 _ (Nat.ne_of_gt hel)).trans hT
    have new : ObjOk X.prog X.w (upd H s.heap.objs.size (.tup [.int (i : Nat), .ref q])) h2 s.heap.objs.size (.tup [.int (i : Nat), .ref q]) := ⟨by show 2 ≤ sizeLine; decide, [.int i tk, .ref q], .cons ⟨_, rfl⟩ (.cons rfl .nil), ⟨_, hT2, rfl, _, rfl⟩⟩
    have I1 : Inv X pins σ (upd H s.heap.objs.size (.tup [.int (i : Nat), .ref q])) { s with heap := h2, toks := tk + 1 } :=
      I.turnedNew (t' := tk + 1) (ch := [e, it]) (fun b ob hb q => (sb.2 b (fun z => hb (by simp [z]))).trans (hk b ob (fun z => hb (by simp [z])) (fun z => hb (by simp [z])) q)) hf (Nat.le_refl _) new
    refine ⟨.ref s.heap.objs.size, _, I1, rfl, ⟨_, q, k, x, rfl, I.hok.fresh (Nat.le_refl _), rfl, hkv, hq⟩, ⟨⟨.ref q, ?_⟩, hs'.1.at fun o q => (sb.2 it (Ne.symm hne)).trans q, hne, hai, hae⟩, fun b hb => ?_⟩
    · have e1 : ((i + 1 : Nat) : Int) = (i : Int) + 1 := by omega
      rw [e1]; exact he2
    · have hb' : b < s.heap.objs.size := by
        rcases (show b = e ∨ b = it by simpa using hb) with rfl | rfl
        · exact hel
        · exact hil
      rw [upd_ne (Nat.ne_of_lt hb')]
      exact (hf b hb).1
  done := by
    intro X hP hw hK hc i pins s σ H E I hf st hg
    subst hP hw hK
    obtain ⟨⟨old, he⟩, hit, hne, hai, hae⟩ := st
    obtain ⟨hd, hi⟩ := hg
    obtain ⟨hs, hgd, hx, es', ep', hdt, hsz', ent⟩ := I.frzT hd
    obtain ⟨ee1, ee2⟩ := dict_ep hdt hdd
    subst ee1 ee2
    obtain ⟨f0, f1, f2, f3, f4, f5⟩ := hf it (by simp)
    have ei : es.size = i := by omega
    subst ei
    exact wpAny_pyNext_enum_endD (my_drawKeys (prog := X.prog) (w := X.w) (A := X.A.in1) (I.ok.hd hc) it d hai od es ep hdd) he ⟨hit, hgd⟩ fun h' eb => ⟨rfl, I.turned (t' := s.toks) (fun b o hb q => eb b o hb q) f0 f1 f3 f4 f5⟩
  self := fun A i s Q E st h => let ⟨⟨_, he⟩, _⟩ := st; wpAny_pyIter_enum he h
end
def iEnT (K : PySem.W.Frag) (ta : TA) : TI := fun σ H R => ta σ H fun vs H1 => ∃ a xs, vs = [.ref a] ∧ SqT K H1 a xs ∧ R (IteT K a) H1
theorem pi_enT {X : Cx} {e : Expr} {ta : TA} {p pos tpos : Pos} {elts : List Expr} {kk : Nat} (hg : Gl X "enumerate") (hm : X.mg "enumerate" = none) (ha : PA X [e] ta) (hs : starEach [e] X.env = [(false, eval e X.env)] := by rfl) :
    PI X (.Tuple elts kk tpos) (.Call (.Name "enumerate" p) [e] [] pos) (iEnT X.K ta) := by
  refine ⟨fun pins s σ H R I h => ?_⟩
  refine Call_ (ld_blt I hg hm boot_enumerate (PyProof.Rows.callWith_type1 (thn (ha.run pos pins s σ H _ I h) fun us s1 ⟨vs, H1, I1, r1, q1⟩ => ?_) hs rfl))
  obtain ⟨a, xs, ex, hq, q⟩ := q1
  subst ex
  obtain ⟨u, rfl, rx⟩ := vals1 r1
  obtain rfl : u = Value.ref a := rx
  obtain ⟨its, rv, p', hz⟩ := I1.tuple hq
  have lta : a < s1.heap.objs.size := by obtain ⟨_, e1, _⟩ := p'; exact Heap.lt_size e1
  refine my_enum (begins_tuple a its.toArray) p' fun h' he hit hk => wpAny_pyIter_enum he ?_
  have I2 : Inv X pins σ H1 { s1 with heap := h' } := I1.kept (t' := s1.toks) hk
  refine ⟨s1.heap.objs.size + 1, [s1.heap.objs.size + 1, s1.heap.objs.size], _, _, H1, rfl, I2, turn_enT a (s1.heap.objs.size + 1) s1.heap.objs.size, ⟨⟨.none, he⟩, ⟨_, hit, rfl, rfl⟩, Nat.succ_ne_self _, Nat.ne_of_lt lta, Nat.ne_of_lt (Nat.lt_succ_of_lt lta)⟩, fun b hb => ?_, q⟩
  have hle : s1.heap.objs.size ≤ b := by
    rcases (show b = s1.heap.objs.size + 1 ∨ b = s1.heap.objs.size by simpa using hb) with z | z <;> rw [z] <;> first | exact Nat.le_succ _ | exact Nat.le_refl _
  exact I1.fpOk hle (I1.hok.fresh hle)
theorem walk_enT {K : PySem.W.Frag} {a : Addr} {xs : List V} : Walk (IteT K a) xs.length (fun H => SqT K H a xs) (YPair (fun i => some (.int (i : Nat))) (fun i => xs[i]?)) :=
  ⟨fun i _ hi q => ⟨xs, xs[i], q, by simp [hi]⟩, fun _ q => ⟨xs, q, rfl⟩, fun i H v H' _ q ⟨T, x, h1, h2, h3, h4⟩ => ⟨T, .int (i : Nat), x, h1, h2, h3, rfl, h4 xs q⟩⟩
def iEnK (ta : TA) : TI := fun σ H R => ta σ H fun vs H1 => ∃ d o kvs, vs = [.ref d] ∧ H1 d = some (.frz o (.dT kvs)) ∧ R (IteK d o kvs) H1
theorem begins_keys {d : Addr} {od : Obj} {es : Array DictEntry} {ep : Nat} (hs : (d == sysModules) = false) (hx : od.ExactDict) (hdd : od.data = .dict es ep) : Begins (.ref d) { cls := .type "dict_keyiterator", data := .fields #[.ref d, .int 0 0, .int es.size 0, .int ep 0] } fun h => h.get? d = some od where
  iter := fun prog w A E s Q h1 h => iter_keys hs h1 hx hdd h
  keeps := fun h h' x hk => hk d _ x
  free := rfl
theorem pi_enK {X : Cx} {e : Expr} {ta : TA} {p pos tpos : Pos} {elts : List Expr} {kk : Nat} (hg : Gl X "enumerate") (hm : X.mg "enumerate" = none) (ha : PA X [e] ta) (hs : starEach [e] X.env = [(false, eval e X.env)] := by rfl) :
    PI X (.Tuple elts kk tpos) (.Call (.Name "enumerate" p) [e] [] pos) (iEnK ta) := by
  refine ⟨fun pins s σ H R I h => ?_⟩
  refine Call_ (ld_blt I hg hm boot_enumerate (PyProof.Rows.callWith_type1 (thn (ha.run pos pins s σ H _ I h) fun us s1 ⟨vs, H1, I1, r1, q1⟩ => ?_) hs rfl))
  obtain ⟨d, od, kvs, ex, hq, q⟩ := q1
  subst ex
  obtain ⟨u, rfl, rx⟩ := vals1 r1
  obtain rfl : u = Value.ref d := rx
  obtain ⟨hsm, hgd, hx, es, ep, hdt, hsz, ent⟩ := I1.frzT hq
  have ltd : d < s1.heap.objs.size := Heap.lt_size hgd
  refine my_enum (begins_keys hsm hx hdt) hgd fun h' he hit hk => wpAny_pyIter_enum he ?_
  have I2 : Inv X pins σ H1 { s1 with heap := h' } := I1.kept (t' := s1.toks) hk
  refine ⟨s1.heap.objs.size + 1, [s1.heap.objs.size + 1, s1.heap.objs.size], _, _, H1, rfl, I2, turn_enK hdt hsz (s1.heap.objs.size + 1) s1.heap.objs.size, ⟨⟨.none, he⟩, ⟨_, hit, rfl, rfl⟩, Nat.succ_ne_self _, Nat.ne_of_lt ltd, Nat.ne_of_lt (Nat.lt_succ_of_lt ltd)⟩, fun b hb => ?_, q⟩
  have hle : s1.heap.objs.size ≤ b := by
    rcases (show b = s1.heap.objs.size + 1 ∨ b = s1.heap.objs.size by simpa using hb) with z | z <;> rw [z] <;> first | exact Nat.le_succ _ | exact Nat.le_refl _
  exact I1.fpOk hle (I1.hok.fresh hle)
theorem walk_enK {d : Addr} {od : Obj} {kvs : List (List Key × V)} : Walk (IteK d od kvs) kvs.length (fun H => H d = some (.frz od (.dT kvs))) (fun i H v H' => ∃ T q k x, v = .ref T ∧ H T = none ∧ H' = upd H T (.tup [.int (i : Nat), .ref q]) ∧ kvs[i]? = some (k, x) ∧ H q = some (.tup (k.map kV))) :=
  ⟨fun i _ hi q => ⟨q, hi⟩, fun _ q => ⟨q, rfl⟩, fun i H v H' _ q y => y⟩
end L2.My
end
section
set_option Elab.async false
set_option linter.all false
set_option maxRecDepth 100000
set_option maxHeartbeats 4000000
namespace L2.My
open PySem PySem.Spec PyProof.Rows
section
variable {X : Cx} {pins : List (Addr × Obj)} {σ : St} {H : Hp} {s : Shared} {a b : Addr} {v : V} {r : Value} {A : Around} {E : Value → Shared → Prop} {kvs : List (List Key × V)} {k : List Key}
theorem d_dictSetT {Q : Unit → Shared → Prop} (hu : A.units + 2 < cLine) (I : Inv X pins σ H s) (e : H a = some (.dT kvs)) (eb : H b = some (.tup (k.map kV))) (hz : kvs.length < sizeLine) (rv : RelV v r)
    (h : ∀ s', Inv X pins σ (upd H a (.dT (putK kvs k v))) s' → Q () s') : wpAny (model X.prog X.w) A (dictSet a (.ref b) r) Q E s := by
  obtain ⟨z, hd, xs, rel, dd⟩ := dt_of I.hok e
  have zx : xs.length ≤ sizeLine := by rw [← Paired.length rel]; exact z
  have hl : (putK kvs k v).length ≤ sizeLine := by have := length_putK kvs k v; omega
  refine wpAny_dictSet_heap (hsz := zx) (show A.units < cLine by omega) (key_of I.hok eb) dd fun h' dd' hs => h _ ?_
  obtain ⟨q, es, ep, hq, h2, h3, h4, _, h5⟩ := dd'
  refine d_write I (by rw [e]; exact True.intro) hs ⟨q, hq⟩ ⟨hl, hd, _, (rel.put k eb rv).keeps fun c ys ec => ?_, q, es, ep, hq, h2, h3, h4, h5⟩
  rw [upd_ne (ne_of ec e (fun z => nomatch z))]
  exact ec
theorem d_setdT {d : V} {Q : Value → Shared → Prop} (hu : A.units + 2 < cLine) (I : Inv X pins σ H s) (e : H a = some (.dT kvs)) (eb : H b = some (.tup (k.map kV))) (hz : kvs.length < sizeLine) (rd : RelV d r)
    (h1 : ∀ v, valV kvs k = some v → ∀ (w' : Value) (s' : Shared), Inv X pins σ H s' → RelV v w' → Q w' s') (h2 : valV kvs k = none → ∀ (w' : Value) (s' : Shared), Inv X pins σ (upd H a (.dT (putK kvs k d))) s' → RelV d w' → Q w' s') :
    wpAny (model X.prog X.w) A (call (.builtin "dict.setdefault") [.ref a, .ref b, r]) Q E s := by
  obtain ⟨z, hd, xs, rel, dd⟩ := dt_of I.hok e
  have zx : xs.length ≤ sizeLine := by rw [← Paired.length rel]; exact z
  have q := rel.val k
  refine call_setdefault_heap (show A.units + 1 < cLine by omega) (key_of I.hok eb) hd dd (fun p hp => ?_) (fun hn h' dd' hs => ?_) zx
  · rw [hp] at q
    cases q0 : valV kvs k with
    | none => rw [q0] at q; exact (show False from q).elim
    | some v0 => rw [q0] at q; exact h1 v0 q0 _ _ (I.tok _) q
  · rw [hn] at q
    cases q0 : valV kvs k with
    | some v0 => rw [q0] at q; exact (show False from q).elim
    | none =>
      have hl : (putK kvs k d).length ≤ sizeLine := by have := length_putK kvs k d; omega
      obtain ⟨o, es, ep, hq, e2, e3, e4, _, e5⟩ := dd'
      have J : ObjOk X.prog X.w (upd H a (.dT (putK kvs k d))) h' a (.dT (putK kvs k d)) := ⟨hl, hd, _, (rel.put k eb rd).keeps fun c ys ec => (by
        rw [upd_ne (ne_of ec e (fun z => nomatch z))]
        exact ec), o, es, ep, hq, e2, e3, e4, e5⟩
      exact h2 q0 _ _ (d_write I (by rw [e]; exact True.intro) hs ⟨o, hq⟩ J) rd
end
/-- d.setdefault(y, z), tuple keys -/
def tDSetT (td ty tx : TE) : TE := fun σ H Q => td σ H fun x H1 => ∃ a, x = .ref a ∧ IsD H1 a ∧ ty σ H1 fun y H2 => tx σ H2 fun z H3 => ∃ (kvs : List (List Key × V)) (k : List Key) (b : Addr), H3 a = some (.dT kvs) ∧ y = .ref b ∧ H3 b = some (.tup (k.map kV)) ∧ kvs.length < sizeLine ∧
  (∀ v, valV kvs k = some v → Q v H3) ∧ (valV kvs k = none → Q z (upd H3 a (.dT (putK kvs k z))))
section
variable {X : Cx} {o e f : Expr} {td ty tx : TE} {apos cpos : Pos}
theorem pe_dsetT (hu : X.A.units + 2 < cLine) (ho : PE X o td) (he : PE X e ty) (hf : PE X f tx) (m : M2 X o "setdefault" apos e f cpos) : PE X (.Call (.Attribute o "setdefault" apos) [e, f] [] cpos) (tDSetT td ty tx) := by
  refine ⟨fun pins s σ H Q I h => ?_⟩
  refine wpAny_Call_method m.base m.few m.line PySem.F.plainAttrs_dict PySem.F.slot_dict_setdefault PySem.F.type_dict_setdefault (thn (ho.run pins s σ H _ I h) fun u s1 ⟨x, H1, I1, rx, a, ex, d, q1⟩ => ?_)
  subst ex
  obtain rfl : u = Value.ref a := rx
  obtain ⟨t1, t2, _⟩ := isD_at I1 d
  refine ⟨t1, t2, ?_⟩
  rw [m.trees]
  refine Calls.callWith_builtin rfl (Calls.evalArgs_plain (Calls.spliced_cons (thn (he.run pins s1 σ H1 _ I1 q1) fun iv s2 ⟨y, H2, I2, ry, q2⟩ => Calls.spliced_cons (thn (hf.run pins s2 σ H2 _ I2 q2) fun fv s3 ⟨z, H3, I3, rz, kvs, k, b, ea, ey, eb, hl, q3, q4⟩ => Calls.spliced_nil ?_))))
  subst ey
  obtain rfl : iv = Value.ref b := ry
  exact d_setdT hu I3 ea eb hl rz (fun v hv w' s4 I4 rw' => ⟨v, _, I4, rw', q3 v hv⟩) fun hn w' s4 I4 rw' => ⟨z, _, I4, rw', q4 hn⟩
end
/-! ### a comprehension -/
def tDcT (wi : TI) (g : TG) (tt : TT) (tk tv : TE) (vs : List Nat) : TE := fun σ H Q => wi σ H fun J H1 => ∀ D, H1 D = none → ∃ W : Nat → Nat → Hp → Prop, (∃ m, W 0 m (upd H1 D (.dT []))) ∧ ∀ i m H, W i m H →
  (J.stop i H ∧ Q (.ref D) H) ∨ (J.go i H ∧ ∃ Nx : Hp → Prop, (∀ H', Nx H' → ∃ m', m' < m ∧ W (i + 1) m' H') ∧ ∀ x H', J.yld i H x H' → g x (wipe σ vs) H' fun σ2 H2 => wipe σ2 vs = wipe σ vs ∧ tt σ2 H2 fun b H3 =>
    if b = true then tk σ2 H3 fun y H4 => tv σ2 H4 fun z H5 => ∃ kvs k b, y = .ref b ∧ H5 D = some (.dT kvs) ∧ H5 b = some (.tup (k.map kV)) ∧ kvs.length < sizeLine ∧ Nx (upd H5 D (.dT (putK kvs k z))) else Nx H3)
section
variable {X : Cx}
theorem dc_coreT {pins : List (Addr × Obj)} {s : Shared} {σ : St} {H : Hp} {Q : VK} {kx vx tg iter : Expr} {ifs : List Expr} {scope : Scope} {own : List (Str × Nat)} {pos pos' : Pos} {wi : TI} {g : TG} {tt : TT} {tk tv : TE} {use : Option (Value → Sem Unit)} {Qf : Value → Shared → Prop}
    (hu : X.A.units + 2 < cLine) (hc : X.calm = true) (hN : X.N.Nodup) (I : Inv X pins σ H s) (hi : PI X tg iter wi) (ok : BlkOk X.N X.env.scope scope own)
    (hg : ∀ (s : Shared) (H : Hp) (C : Addr) (cl : List (Str × Addr)) (fp : List Addr), PG (X.blk s H scope (compEnvC scope cl C X.env) fp) tg g) (ht : ∀ (s : Shared) (H : Hp) (C : Addr) (cl : List (Str × Addr)) (fp : List Addr), PTs (X.blk s H scope (compEnvC scope cl C X.env) fp) ifs tt)
    (hk : ∀ (s : Shared) (H : Hp) (C : Addr) (cl : List (Str × Addr)) (fp : List Addr), PE (X.blk s H scope (compEnvC scope cl C X.env) fp) kx tk)
    (he : ∀ (s : Shared) (H : Hp) (C : Addr) (cl : List (Str × Addr)) (fp : List Addr), PE (X.blk s H scope (compEnvC scope cl C X.env) fp) vx tv) (hs : ∀ x, foldedSetIterable iter X.env x = pure x)
    (h : tDcT wi g tt tk tv (own.map (·.2)) σ H Q)
    (hRR : ∀ D C s' m H', Inv X pins σ H' s' → Q (.ref D) H' → s'.heap.Ns C m → FpOk X pins H' C → compPost (model X.prog X.w) X.A X.xe use Qf (.ref D) C (.ok .next) s') :
    wpAny (model X.prog X.w) X.A (comprehension (.DictComp kx vx [⟨tg, iter, ifs, 0⟩] scope pos) scope X.env pos' newDict false (eval iter X.env) use) Qf X.xe s := by
  have hfree : ∀ y ∈ scope.names, y.2 = .free → ∃ c, X.env.cells.lookup y.1 = some c := fun y hy e => by
    rcases ok.free y hy e with k | k
    · exact I.ok.has _ (.inl k)
    · exact I.ok.has _ (.inr k)
  refine wpAny_comprehension_free (use := use) rfl hs (closure_ok hfree) ok.kind (fun y hy e => by rw [ok.uniq y hy, e])
    (thn (hi.run pins s σ H _ I h) fun xv s1 hx => thn hx fun itv s2 h2 => ?_)
  obtain ⟨it, fp, tn, J, H2, e, I2, T, st2, f2, q⟩ := h2
  subst e
  refine wpAny_newObj_type (newEnv_comp ?_)
  generalize hD : s2.heap.objs.size = D
  have hDn : H2 D = none := I2.hok.fresh (Nat.le_of_eq hD)
  obtain ⟨W, ⟨m0, w0⟩, turn⟩ := q D hDn
  -- the new list
  generalize hs3 : ({ s2 with heap := s2.heap.push { cls := .type "dict", data := .dict #[] } } : Shared) = s3
  have I3 : Inv X pins σ (upd H2 D (.dT [])) s3 := by
    rw [← hs3]
    refine I2.laid (t' := s2.toks) (fun b o e => Heap.get?_push_of_some _ e) (Nat.le_of_eq hD) ?_
    rw [← hD]
    exact dt_empty s2.heap I2.big
  have h3 : s3.heap = s2.heap.push { cls := .type "dict", data := .dict #[] } := by rw [← hs3]
  have sz : ∀ b ∈ fp, b < s2.heap.objs.size := fun b hb => by
    obtain ⟨o, e, _⟩ := T.obj _ _ st2 b hb
    exact Heap.lt_size e
  have f3 : ∀ b ∈ fp, FpOk X pins (upd H2 D (.dT [])) b ∧ b < s3.heap.objs.size := fun b hb => by
    have hlt := sz b hb
    refine ⟨⟨?_, (f2 b hb).2⟩, by rw [h3, Heap.size_push]; exact Nat.lt_succ_of_lt hlt⟩
    rw [upd_ne (by rw [← hD]; exact Nat.ne_of_lt hlt)]
    exact (f2 b hb).1
  have st3 : tn 0 s3.heap := T.keep _ _ _ st2 fun b _ o e => by rw [h3]; exact Heap.get?_push_of_some _ e
  have I4 := block_start I3 ok hN f3
  have pg := hg s3 (upd H2 D (.dT [])) s3.heap.objs.size (cellsFrom (s3.heap.objs.size + 1) scope.names (cloFrom X.env.cells scope.names [])) fp
  have pt := ht s3 (upd H2 D (.dT [])) s3.heap.objs.size (cellsFrom (s3.heap.objs.size + 1) scope.names (cloFrom X.env.cells scope.names [])) fp
  have pk := hk s3 (upd H2 D (.dT [])) s3.heap.objs.size (cellsFrom (s3.heap.objs.size + 1) scope.names (cloFrom X.env.cells scope.names [])) fp
  have pe := he s3 (upd H2 D (.dT [])) s3.heap.objs.size (cellsFrom (s3.heap.objs.size + 1) scope.names (cloFrom X.env.cells scope.names [])) fp
  show codeAny _ _ (.compStart (.DictComp kx vx [⟨tg, iter, ifs, 0⟩] scope pos) 0 (.ref it) (.ref D) (compEnvC scope (cellsFrom (s3.heap.objs.size + 1) scope.names (cloFrom X.env.cells scope.names [])) s3.heap.objs.size X.env)) (compPost (model X.prog X.w) X.A X.xe use Qf (.ref D) s3.heap.objs.size) { s3 with heap := pushCells (s3.heap.push { cls := .type "dict", data := .dict #[] }) scope.names }
  have nfp : ∀ b ∈ fp, (upd H2 D (.dT [])) b = none := fun b hb => (f3 b hb).1.1
  generalize hce : compEnvC scope (cellsFrom (s3.heap.objs.size + 1) scope.names (cloFrom X.env.cells scope.names [])) s3.heap.objs.size X.env = ce at I4 pg pt pk pe ⊢
  have cL : ce.locals = s3.heap.objs.size := by subst hce; rfl
  generalize hH3 : upd H2 D (.dT []) = H3 at I3 I4 pg pt pk pe w0 nfp f3
  generalize hs4 : ({ s3 with heap := pushCells (s3.heap.push { cls := .type "dict", data := .dict #[] }) scope.names } : Shared) = s4 at I4 ⊢
  have st4 : tn 0 s4.heap := T.keep _ _ _ st3 fun b _ o e => by rw [← hs4]; exact pushCells_keeps _ _ _ _ (Heap.get?_push_of_some _ e)
  have stat : ∀ {σ' : St} {H' : Hp} {s' : Shared}, Inv (X.blk s3 H3 scope ce fp) [] σ' H' s' → (∀ b ∈ fp, H' b = none) → ∀ b ∈ fp, FpOk (X.blk s3 H3 scope ce fp) [] H' b := fun {σ' H' s'} I' hn b hb =>
    ⟨hn b hb, (I'.ok.exf b hb).1, I'.ok.exfs b hb, .inl hb, fun x c e => (I'.ok.exf b hb).2 x c e, fun p hp => absurd (show p ∈ ([] : List (Addr × Obj)) ++ [] from hp) (by simp)⟩
  have loop : codeAny (model X.prog X.w) X.A (.compLoop (.DictComp kx vx [⟨tg, iter, ifs, 0⟩] scope pos) 0 (.ref it) (.ref D) ce) (compPost (model X.prog X.w) X.A X.xe use Qf (.ref D) s3.heap.objs.size) s4 := by
    refine compLoop_anyD (fun n s' => ∃ i H', Inv (X.blk s3 H3 scope ce fp) [] (wipe σ (own.map (·.2))) H' s' ∧ tn i s'.heap ∧ (∀ b ∈ fp, H' b = none) ∧ W i n H') ?_ m0 ⟨0, H3, I4, st4, nfp, w0⟩
    rintro n s5 ⟨i, H5, I5, st5, n5, w5⟩
    rcases turn i n H5 w5 with ⟨stop, qq⟩ | ⟨go, Nx, hNx, step⟩
    · have td := T.done (X.blk s3 H3 scope ce fp) rfl rfl rfl hc i [] s5 _ H5 (fun _ _ => False) I5 (stat I5 n5) st5 stop
      refine thnF td fun r s6 ⟨hr, I6⟩ => ?_
      subst hr
      -- back in the def's context
      have I7 : Inv X pins σ H5 s6 := I3.call' (ch := fp) I6.os I6.base I6.hok I6.bare fun b hb => ⟨(f3 b hb).1.2.2.2.1, (f3 b hb).1.2.1, (f3 b hb).1.2.2.2.2.1, (f3 b hb).1.2.2.2.2.2⟩
      have nC : H5 s3.heap.objs.size = none := by
        have z : H5 ce.locals = none := I6.free
        rw [cL] at z
        exact z
      obtain ⟨m, hn, _⟩ := I6.loc
      have hn : s6.heap.Ns ce.locals m := hn
      rw [cL] at hn
      exact hRR D s3.heap.objs.size s6 m H5 I7 qq hn (I3.fpOk (Nat.le_refl _) nC)
    · have ti := T.item (X.blk s3 H3 scope ce fp) rfl rfl rfl hc i [] s5 _ H5 (fun _ _ => False) I5 (stat I5 n5) st5 go
      refine thnF ti fun r s6 ⟨u, hr, h6⟩ => ?_
      subst hr
      refine thnF h6 fun _ s7 ⟨x, H7, I7, r7, y7, st7, n7⟩ => ?_
      have I7' := I7.pinned (stat I7 n7) (T.obj _ _ st7)
      refine thnF (pg.run _ s7 _ H7 x u _ I7' r7 (step x H7 y7)) fun _ s8 ⟨σ8, H8, I8, hw8, q8⟩ => ?_
      refine thnF (pt.run _ s8 σ8 H8 _ I8 q8) fun b s9 ⟨H9, I9, q9⟩ => ?_
      -- the turn's end
      have fin : ∀ {s' : Shared} {H' : Hp}, Inv (X.blk s3 H3 scope ce fp) ([] ++ pinsAt fp s7.heap) σ8 H' s' → Nx H' → ∃ m, m < n ∧ ∃ i H', Inv (X.blk s3 H3 scope ce fp) [] (wipe σ (own.map (·.2))) H' s' ∧ tn i s'.heap ∧ (∀ b ∈ fp, H' b = none) ∧ W i m H' := fun {s' H'} I' nx => by
        obtain ⟨m', hm, w'⟩ := hNx H' nx
        have pin' : ∀ b ∈ fp, ∀ o, s7.heap.get? b = some o → s'.heap.get? b = some o ∧ H' b = none := fun b hb o e =>
          let z := I'.pin (b, o) (List.mem_append_right _ (List.mem_append_right _ (mem_pinsAt hb e)))
          ⟨z.1, z.2.1⟩
        have hl : (wipe σ (own.map (·.2))).length = σ8.length := by rw [← hw8, wipe_length]
        refine ⟨m', hm, i + 1, H', (I'.unpinned (pins := [])).weak hl (fun j v e => ?_), T.keep _ _ _ st7 fun b hb o e => (pin' b hb o e).1, fun b hb => ?_, w'⟩
        · rw [← hw8] at e
          exact (wipe_some e).1
        · obtain ⟨o, e, _⟩ := T.obj _ _ st7 b hb
          exact (pin' b hb o e).2
      cases b with
      | false =>
        simp only [Bool.false_eq_true, if_false] at q9 ⊢
        exact fin I9 q9
      | true =>
        simp only [if_true] at q9 ⊢
        refine thnF (pk.run _ s9 σ8 H9 _ I9 q9) fun z s10 ⟨yk, H10, I10, r10, q10⟩ => ?_
        refine thnF (pe.run _ s10 σ8 H10 _ I10 q10) fun z2 s11 ⟨yv, H11, I11, r11, kvs, k, b, ek, hD11, hb11, hz11, nx⟩ => ?_
        subst ek
        obtain rfl : z = Value.ref b := r10
        exact d_dictSetT (X := X.blk s3 H3 scope ce fp) hu I11 hD11 hb11 hz11 r11 fun s12 I12 => fin I12 nx
  exact codeAny_compStart_dict loop (T.self X.A 0 _ _ _ st4 loop)
/-- as a value -/
theorem pe_dcT {kx vx tg iter : Expr} {ifs : List Expr} {scope : Scope} {own : List (Str × Nat)} {pos : Pos} {wi : TI} {g : TG} {tt : TT} {tk tv : TE} (hu : X.A.units + 2 < cLine) (hc : X.calm = true) (hN : X.N.Nodup) (hi : PI X tg iter wi) (ok : BlkOk X.N X.env.scope scope own)
    (hg : ∀ (s : Shared) (H : Hp) (C : Addr) (cl : List (Str × Addr)) (fp : List Addr), PG (X.blk s H scope (compEnvC scope cl C X.env) fp) tg g) (ht : ∀ (s : Shared) (H : Hp) (C : Addr) (cl : List (Str × Addr)) (fp : List Addr), PTs (X.blk s H scope (compEnvC scope cl C X.env) fp) ifs tt)
    (hk : ∀ (s : Shared) (H : Hp) (C : Addr) (cl : List (Str × Addr)) (fp : List Addr), PE (X.blk s H scope (compEnvC scope cl C X.env) fp) kx tk)
    (he : ∀ (s : Shared) (H : Hp) (C : Addr) (cl : List (Str × Addr)) (fp : List Addr), PE (X.blk s H scope (compEnvC scope cl C X.env) fp) vx tv) (hs : ∀ x, foldedSetIterable iter X.env x = pure x := by intro _; rfl) :
    PE X (.DictComp kx vx [⟨tg, iter, ifs, 0⟩] scope pos) (tDcT wi g tt tk tv (own.map (·.2))) := by
  refine ⟨fun pins s σ H Q I h => ?_⟩
  rw [arm_eval_DictComp]
  refine dc_coreT hu hc hN I hi ok hg ht hk he hs h fun D C s' m H' I' q hn f => ⟨m, hn, fun h'' sb => ?_⟩
  obtain ⟨f0, f1, f2, f3, f4, f5⟩ := f
  exact ⟨.ref D, H', I'.turned (t' := s'.toks) (fun b o hb e => (sb.2 b hb).trans e) f0 f1 f3 f4 f5, rfl, q⟩
end
end L2.My
end
section
set_option Elab.async false
set_option linter.all false
set_option maxRecDepth 100000
set_option maxHeartbeats 4000000
/-! The mathematics of rules: what can be derived, rounds, bits. -/
namespace L2.My
open PySem PySem.Spec PyProof.Rows
abbrev Fc : Type := List Key
abbrev Cz : Type := List Fc × Fc
instance memDec (f : Fc) (a : List Fc) : Decidable (f ∈ a) := @List.instDecidableMemOfLawfulBEq Fc instBEqOfDecidableEq inferInstance f a
/-- derived of grounds by clauses, one left out -/
inductive Der (cs : List Cz) (G : Fc → Prop) (ex : Option Nat) : Fc → Prop where
  | gr {f : Fc} (h : G f) : Der cs G ex f
  | cl {i : Nat} {b : List Fc} {h : Fc} (e : cs[i]? = some (b, h)) (n : ex ≠ some i) (hb : ∀ x ∈ b, Der cs G ex x) : Der cs G ex h
theorem Der.closed {cs : List Cz} {G : Fc → Prop} {ex : Option Nat} {S : Fc → Prop} (hg : ∀ f, G f → S f) (hc : ∀ i b h, cs[i]? = some (b, h) → ex ≠ some i → (∀ x ∈ b, S x) → S h) {f : Fc} (d : Der cs G ex f) : S f := by
  induction d with
  | gr h => exact hg _ h
  | cl e n _ ih => exact hc _ _ _ e n ih
theorem Der.none {cs : List Cz} {G : Fc → Prop} {ex : Option Nat} {f : Fc} (d : Der cs G ex f) : Der cs G none f := by
  induction d with
  | gr h => exact .gr h
  | cl e n _ ih => exact .cl e (fun z => nomatch z) ih
/-! ### unlike items -/
def dk (b : List Fc) : List Fc := b.foldl (fun a f => if f ∈ a then a else a ++ [f]) []
theorem dk_gen : ∀ (b a : List Fc), a.Nodup → (b.foldl (fun a f => if f ∈ a then a else a ++ [f]) a).Nodup ∧ ∀ x, x ∈ b.foldl (fun a f => if f ∈ a then a else a ++ [f]) a ↔ x ∈ a ∨ x ∈ b
  | [], a, h => ⟨h, fun x => by simp⟩
  | f :: r, a, h => by
    rw [List.foldl_cons]
    by_cases hf : f ∈ a
    · rw [if_pos hf]
      obtain ⟨h1, h2⟩ := dk_gen r a h
      refine ⟨h1, fun x => ?_⟩
      rw [h2 x, List.mem_cons]
      constructor
      · rintro (z | z)
        · exact .inl z
        · exact .inr (.inr z)
      · rintro (z | rfl | z)
        · exact .inl z
        · exact .inl hf
        · exact .inr z
    · rw [if_neg hf]
      obtain ⟨h1, h2⟩ := dk_gen r (a ++ [f]) (by
        rw [List.nodup_append]
        exact ⟨h, by simp, fun x hx y hy => by rw [List.mem_singleton] at hy; rw [hy]; rintro rfl; exact hf hx⟩)
      refine ⟨h1, fun x => ?_⟩
      rw [h2 x, List.mem_append, List.mem_singleton, List.mem_cons, or_assoc]
theorem dk_nodup (b : List Fc) : (dk b).Nodup := (dk_gen b [] List.nodup_nil).1
theorem mem_dk {b : List Fc} {x : Fc} : x ∈ dk b ↔ x ∈ b := by
  have := (dk_gen b [] List.nodup_nil).2 x
  rw [show dk b = b.foldl (fun a f => if f ∈ a then a else a ++ [f]) [] from rfl, this]
  simp
/-- how many unlike ones of a body are not there -/
def lackB (b F : List Fc) : Nat := ((dk b).filter fun x => decide (x ∉ F)).length
theorem filter_snoc {l F : List Fc} {f : Fc} (nd : l.Nodup) (hf : f ∉ F) : (l.filter fun x => decide (x ∉ F ++ [f])).length + (if f ∈ l then 1 else 0) = (l.filter fun x => decide (x ∉ F)).length := by
  induction l with
  | nil => simp
  | cons a r ih =>
    rw [List.nodup_cons] at nd
    have ih := ih nd.2
    by_cases ha : a = f
    · subst ha
      have h1 : ¬ (decide (a ∉ F ++ [a]) = true) := by simp
      have h2 : decide (a ∉ F) = true := by simp [hf]
      rw [List.filter_cons_of_neg (p := fun x => decide (x ∉ F ++ [a])) h1, List.filter_cons_of_pos (p := fun x => decide (x ∉ F)) h2, List.length_cons, if_pos List.mem_cons_self]
      rw [if_neg nd.1] at ih
      omega
    · have hm : (f ∈ a :: r) ↔ f ∈ r := by
        rw [List.mem_cons]
        exact ⟨fun z => z.resolve_left fun e => ha e.symm, .inr⟩
      by_cases h3 : a ∈ F
      · have h1 : ¬ (decide (a ∉ F ++ [f]) = true) := by simp [h3]
        have h2 : ¬ (decide (a ∉ F) = true) := by simp [h3]
        rw [List.filter_cons_of_neg (p := fun x => decide (x ∉ F ++ [f])) h1, List.filter_cons_of_neg (p := fun x => decide (x ∉ F)) h2]
        simp only [hm]
        exact ih
      · have h1 : decide (a ∉ F ++ [f]) = true := by simp [h3, ha]
        have h2 : decide (a ∉ F) = true := by simp [h3]
        rw [List.filter_cons_of_pos (p := fun x => decide (x ∉ F ++ [f])) h1, List.filter_cons_of_pos (p := fun x => decide (x ∉ F)) h2, List.length_cons, List.length_cons]
        simp only [hm]
        omega
theorem lackB_snoc {b F : List Fc} {f : Fc} (hf : f ∉ F) : lackB b (F ++ [f]) + (if f ∈ b then 1 else 0) = lackB b F := by
  have := filter_snoc (dk_nodup b) hf
  simp only [mem_dk] at this
  exact this
theorem lackB_zero {b F : List Fc} : lackB b F = 0 ↔ ∀ x ∈ b, x ∈ F := by
  unfold lackB
  rw [List.length_eq_zero_iff, List.filter_eq_nil_iff]
  constructor
  · intro h x hx
    have := h x (mem_dk.mpr hx)
    simpa using this
  · intro h x hx
    simp [h x (mem_dk.mp hx)]
theorem lackB_nil (b : List Fc) : lackB b [] = (dk b).length := by
  unfold lackB
  rw [List.filter_eq_self.mpr]
  intro x _
  simp
/-! ### bits -/
def bit : Int → Nat → Bool
  | v, 0 => decide (v % 2 = 1)
  | v, c + 1 => bit (v / 2) c
theorem bit_eq : ∀ (c : Nat) (v : Int), bit v c = decide (v / 2 ^ c % 2 = 1)
  | 0, v => by simp [bit]
  | c + 1, v => by
    rw [bit, bit_eq c, Int.ediv_ediv, if_neg (fun z => absurd z.1 (by decide)), Int.sub_zero, Int.pow_succ, Int.mul_comm (2 ^ c) 2]
theorem bit_and : ∀ (c : Nat) (x y : Int), bit (Builtin.bitAnd x y) c = (bit x c && bit y c)
  | 0, x, y => by
    have h := PySem.W.kbt_halves x y
    unfold bit
    by_cases h1 : x % 2 = 1
    · by_cases h2 : y % 2 = 1
      · rw [if_pos ⟨h1, h2⟩] at h
        rw [decide_eq_true h1, decide_eq_true h2, decide_eq_true (by omega)]; rfl
      · rw [if_neg (fun z => h2 z.2)] at h
        rw [decide_eq_true h1, decide_eq_false h2, decide_eq_false (by omega)]; rfl
    · rw [if_neg (fun z => h1 z.1)] at h
      rw [decide_eq_false h1, decide_eq_false (by omega)]; rfl
  | c + 1, x, y => by
    have h := PySem.W.kbt_halves x y
    have e : Builtin.bitAnd x y / 2 = Builtin.bitAnd (x / 2) (y / 2) := by
      split at h <;> omega
    rw [bit, e, bit_and c, bit, bit]
theorem bit_not : ∀ (c : Nat) (x : Int), bit (Builtin.bitNot x) c = !bit x c
  | 0, x => by
    have e : Builtin.bitNot x = -x - 1 := by unfold Builtin.bitNot; omega
    rw [e]
    unfold bit
    by_cases h : x % 2 = 1
    · rw [decide_eq_true h, decide_eq_false (by omega)]; rfl
    · rw [decide_eq_false h, decide_eq_true (by omega)]; rfl
  | c + 1, x => by
    have e : Builtin.bitNot x = -x - 1 := by unfold Builtin.bitNot; omega
    have e2 : Builtin.bitNot (x / 2) = -(x / 2) - 1 := by unfold Builtin.bitNot; omega
    have h := bit_not c (x / 2)
    rw [e2] at h
    rw [bit, bit, ← h, e]
    congr 1
    omega
theorem bit_or (c : Nat) (x y : Int) : bit (Builtin.bitOr x y) c = (bit x c || bit y c) := by
  unfold Builtin.bitOr
  rw [bit_not, bit_and, bit_not, bit_not]
  simp
def InR (k : Nat) (v : Int) : Prop := -(2 ^ k) ≤ v ∧ v < 2 ^ k
theorem inR_half {k : Nat} {v : Int} (h : InR (k + 1) v) : InR k (v / 2) := by
  obtain ⟨h1, h2⟩ := h
  rw [Int.pow_succ] at h1 h2
  exact ⟨by omega, by omega⟩
theorem inR_dbl {k : Nat} {v : Int} (h : InR k (v / 2)) : InR (k + 1) v := by
  obtain ⟨h1, h2⟩ := h
  refine ⟨?_, ?_⟩ <;> rw [Int.pow_succ] <;> omega
theorem inR_ext : ∀ {k : Nat} {x y : Int}, InR k x → InR k y → (∀ c, c ≤ k → bit x c = bit y c) → x = y
  | 0, x, y, ⟨a1, a2⟩, ⟨b1, b2⟩, h => by
    have e := h 0 (Nat.le_refl _)
    unfold bit at e
    simp only [Int.pow_zero] at a1 a2 b1 b2
    have := decide_eq_decide.mp e
    omega
  | k + 1, x, y, hx, hy, h => by
    have e := inR_ext (inR_half hx) (inR_half hy) fun c hc => h (c + 1) (by omega)
    have e0 := h 0 (Nat.zero_le _)
    unfold bit at e0
    have := decide_eq_decide.mp e0
    omega
theorem inR_and : ∀ {k : Nat} {x y : Int}, InR k x → InR k y → InR k (Builtin.bitAnd x y)
  | 0, x, y, ⟨a1, a2⟩, ⟨b1, b2⟩ => by
    simp only [Int.pow_zero] at a1 a2 b1 b2
    have hx : x = -1 ∨ x = 0 := by omega
    have hy : y = -1 ∨ y = 0 := by omega
    rcases hx with rfl | rfl <;> rcases hy with rfl | rfl <;> exact ⟨by decide, by decide⟩
  | k + 1, x, y, hx, hy => by
    have h := PySem.W.kbt_halves x y
    have e : Builtin.bitAnd x y / 2 = Builtin.bitAnd (x / 2) (y / 2) := by
      split at h <;> omega
    refine inR_dbl ?_
    rw [e]
    exact inR_and (inR_half hx) (inR_half hy)
theorem inR_not {k : Nat} {x : Int} (h : InR k x) : InR k (Builtin.bitNot x) := by
  have e : Builtin.bitNot x = -x - 1 := by unfold Builtin.bitNot; omega
  obtain ⟨h1, h2⟩ := h
  rw [e]
  exact ⟨by omega, by omega⟩
theorem inR_or {k : Nat} {x y : Int} (hx : InR k x) (hy : InR k y) : InR k (Builtin.bitOr x y) := by
  unfold Builtin.bitOr
  exact inR_not (inR_and (inR_not hx) (inR_not hy))
theorem inR_pow {k a : Nat} (h : a < k) : InR k (2 ^ a) := by
  have h1 : (0 : Int) < 2 ^ a := Int.pow_pos (by decide)
  have h2 : (0 : Int) < 2 ^ k := Int.pow_pos (by decide)
  exact ⟨by omega, by
    have := Nat.pow_lt_pow_right (a := 2) (by decide) h
    exact_mod_cast this⟩
theorem inR_zero (k : Nat) : InR k 0 := by
  have h2 : (0 : Int) < 2 ^ k := Int.pow_pos (by decide)
  exact ⟨by omega, by omega⟩
theorem inR_m1 (k : Nat) : InR k (-1) := by
  have h2 : (0 : Int) < 2 ^ k := Int.pow_pos (by decide)
  exact ⟨by omega, by omega⟩
theorem bit_pow : ∀ (c a : Nat), bit (2 ^ a) c = decide (c = a)
  | 0, 0 => by decide
  | 0, a + 1 => by
    unfold bit
    rw [Int.pow_succ, decide_eq_false (by omega), decide_eq_false (by omega)]
  | c + 1, 0 => by
    rw [bit, show ((2 : Int) ^ 0) / 2 = 0 by decide, bit_eq]
    simp
  | c + 1, a + 1 => by
    rw [bit, Int.pow_succ, Int.mul_ediv_cancel _ (by decide), bit_pow c a]
    exact decide_eq_decide.mpr ⟨fun h => by omega, fun h => by omega⟩
theorem bit_zero (c : Nat) : bit 0 c = false := by
  rw [bit_eq]; simp
theorem bit_m1 : ∀ c : Nat, bit (-1) c = true
  | 0 => by decide
  | c + 1 => by rw [bit, show ((-1 : Int)) / 2 = -1 by decide, bit_m1 c]
/-- how many of the bits 0 to k -/
def pc (k : Nat) (v : Int) : Nat := ((List.range (k + 1)).filter fun c => bit v c).length
theorem filter_le {α : Type} {p q : α → Bool} : ∀ {l : List α}, (∀ x ∈ l, p x = true → q x = true) → (l.filter p).length ≤ (l.filter q).length
  | [], _ => Nat.le_refl _
  | a :: r, h => by
    have ih := filter_le (l := r) fun x hx => h x (List.mem_cons_of_mem _ hx)
    by_cases hp : p a = true
    · rw [List.filter_cons_of_pos hp, List.filter_cons_of_pos (h a List.mem_cons_self hp)]
      simp only [List.length_cons]; omega
    · rw [List.filter_cons_of_neg hp]
      by_cases hq : q a = true
      · rw [List.filter_cons_of_pos hq]; simp only [List.length_cons]; omega
      · rw [List.filter_cons_of_neg hq]; exact ih
theorem filter_lt {α : Type} {p q : α → Bool} : ∀ {l : List α}, (∀ x ∈ l, p x = true → q x = true) → (∃ x ∈ l, q x = true ∧ p x = false) → (l.filter p).length < (l.filter q).length
  | [], _, h => by obtain ⟨x, hx, _⟩ := h; exact nomatch hx
  | a :: r, h, ⟨x, hx, h1, h2⟩ => by
    have h' : ∀ x ∈ r, p x = true → q x = true := fun x hx => h x (List.mem_cons_of_mem _ hx)
    rcases List.mem_cons.mp hx with rfl | hx
    · have := filter_le h'
      rw [List.filter_cons_of_neg (by rw [h2]; decide), List.filter_cons_of_pos h1]
      simp only [List.length_cons]; omega
    · have ih := filter_lt h' ⟨x, hx, h1, h2⟩
      by_cases hp : p a = true
      · rw [List.filter_cons_of_pos hp, List.filter_cons_of_pos (h a List.mem_cons_self hp)]
        simp only [List.length_cons]; omega
      · rw [List.filter_cons_of_neg hp]
        by_cases hq : q a = true
        · rw [List.filter_cons_of_pos hq]; simp only [List.length_cons]; omega
        · rw [List.filter_cons_of_neg hq]; exact ih
theorem pc_lt {k : Nat} {x y : Int} (hx : InR k x) (hy : InR k y) (hn : Builtin.bitAnd x y ≠ x) : pc k (Builtin.bitAnd x y) < pc k x := by
  unfold pc
  refine filter_lt (fun c _ h => by rw [bit_and, Bool.and_eq_true] at h; exact h.1) ?_
  have : ¬ ∀ c, c ≤ k → bit (Builtin.bitAnd x y) c = bit x c := fun z => hn (inR_ext (inR_and hx hy) hx z)
  obtain ⟨c, hc⟩ := Classical.not_forall.mp this
  obtain ⟨hc, hb⟩ := Classical.not_imp.mp hc
  refine ⟨c, List.mem_range.mpr (by omega), ?_⟩
  rw [bit_and] at hb ⊢
  cases h1 : bit x c <;> cases h2 : bit y c <;> simp_all
end L2.My
end
section
set_option Elab.async false
set_option linter.all false
set_option maxRecDepth 100000
set_option maxHeartbeats 4000000
namespace L2.My
open PySem PySem.Spec PyProof.Rows
def top (i : Nat) : Stmt := PySem.Challenge.pw_strangerspost_k52_whole_reasons_and_clos.main.body.getD i (.Pass ⟨0, 0, 0, 0⟩)
abbrev mR (i : Nat) : Stmt := inClass (top 22) i
abbrev mB (i : Nat) : Stmt := inClass (top 4) i
abbrev mD (i : Nat) : Stmt := inClass (top 23) i
/-! ### facts on the heap -/
/-- a word of letters -/
def wordS (z : Str) : Prop := 1 ≤ z.length ∧ z.length ≤ 12 ∧ z.cps.toList.all (fun c => decide (97 ≤ c) && decide (c ≤ 122)) = true
/-- a good fact -/
def GF (f : Fc) : Prop := ∃ (z : Str) (is : List Int), f = .inr z :: is.map .inl ∧ wordS z ∧ is.length ≤ 4 ∧ ∀ i ∈ is, 0 ≤ i ∧ i < 1000000000000
/-- all tuples stand -/
def TK (H H' : Hp) : Prop := ∀ p xs, H p = some (.tup xs) → H' p = some (.tup xs)
theorem TK.refl {H : Hp} : TK H H := fun _ _ h => h
theorem TK.trans {H H1 H2 : Hp} (a : TK H H1) (b : TK H1 H2) : TK H H2 := fun p xs h => b p xs (a p xs h)
theorem TK.same {H H' : Hp} (s : Same H H') : TK H H' := fun _ _ h => s _ _ h
theorem TK.upd {H : Hp} {a : Addr} {o : HO} {u : HO} (h : H a = some u) (hu : ∀ xs, u ≠ .tup xs) : TK H (upd H a o) := fun p xs e => by
  rw [upd_ne (fun z => by rw [z, h] at e; exact hu xs (Option.some.inj e))]
  exact e
theorem TK.bl {L : List Addr} {H H' : Hp} (s : BL L H H') (hL : ∀ p ∈ L, ∀ xs, H p ≠ some (.tup xs)) : TK H H' := fun p xs e => s p _ (fun z => hL p z xs e) e
def FactAt (H : Hp) (a : Addr) (f : Fc) : Prop := H a = some (.tup (f.map kV))
def FactsAt (H : Hp) (a : Addr) (fs : List Fc) : Prop := ∃ as : List Addr, H a = some (.tup (as.map .ref)) ∧ Paired (FactAt H) as fs
def ClAt (H : Hp) (a : Addr) (c : Cz) : Prop := ∃ b h, H a = some (.tup [.ref b, .ref h]) ∧ FactsAt H b c.1 ∧ FactAt H h c.2
def ClsAt (H : Hp) (a : Addr) (cs : List Cz) : Prop := ∃ as : List Addr, H a = some (.tup (as.map .ref)) ∧ Paired (ClAt H) as cs
def GrsAt (H : Hp) (a : Addr) (gs : List (List Fc)) : Prop := ∃ as : List Addr, H a = some (.tup (as.map .ref)) ∧ Paired (FactsAt H) as gs
theorem FactAt.tk {H H' : Hp} {a : Addr} {f : Fc} (h : FactAt H a f) (s : TK H H') : FactAt H' a f := s _ _ h
theorem FactsAt.tk {H H' : Hp} {a : Addr} {f : List Fc} (h : FactsAt H a f) (s : TK H H') : FactsAt H' a f := by
  obtain ⟨as, h1, h2⟩ := h
  exact ⟨as, s _ _ h1, Paired.mapP h2 fun _ _ z => z.tk s⟩
theorem ClAt.tk {H H' : Hp} {a : Addr} {f : Cz} (h : ClAt H a f) (s : TK H H') : ClAt H' a f := by
  obtain ⟨b, c, h1, h2, h3⟩ := h
  exact ⟨b, c, s _ _ h1, h2.tk s, h3.tk s⟩
theorem ClsAt.tk {H H' : Hp} {a : Addr} {f : List Cz} (h : ClsAt H a f) (s : TK H H') : ClsAt H' a f := by
  obtain ⟨as, h1, h2⟩ := h
  exact ⟨as, s _ _ h1, Paired.mapP h2 fun _ _ z => z.tk s⟩
theorem GrsAt.tk {H H' : Hp} {a : Addr} {f : List (List Fc)} (h : GrsAt H a f) (s : TK H H') : GrsAt H' a f := by
  obtain ⟨as, h1, h2⟩ := h
  exact ⟨as, s _ _ h1, Paired.mapP h2 fun _ _ z => z.tk s⟩
/-- good clauses, good grounds -/
def GC (c : Cz) : Prop := c.1.length ≤ 4 ∧ (∀ f ∈ c.1, GF f) ∧ GF c.2
/-! ### the text's names -/
structure Tx (mg : Str → Option Value) : Prop where
  isi : mg "isinstance" = none
  int_ : mg "int" = none
  bool_ : mg "bool" = none
  str_ : mg "str" = none
  len_ : mg "len" = none
  all_ : mg "all" = none
  tuple_ : mg "tuple" = none
  list_ : mg "list" = none
  sorted_ : mg "sorted" = none
  range_ : mg "range" = none
  enum_ : mg "enumerate" = none
  abs_ : mg "abs" = none
  zip_ : mg "zip" = none
  set_ : mg "set" = none
  ml : ∃ t, mg "MOST_LETTERS" = some (.int 12 t)
  nb : ∃ t, mg "NUMBER_BOUND" = some (.int 1000000000000 t)
  mn : ∃ t, mg "MOST_NUMBERS" = some (.int 4 t)
  mb : ∃ t, mg "MOST_BODY" = some (.int 4 t)
  mc : ∃ t, mg "MOST_CLAUSES" = some (.int 20000 t)
  mgr : ∃ t, mg "MOST_GROUNDS" = some (.int 60 t)
  mf : ∃ t, mg "MOST_FACTS" = some (.int 5000 t)
/-- a def of the module that may be called -/
structure Cal (P : Program) (w : World) (K : PySem.W.Frag) (mg : Str → Option Value) (base : Heap) (k : Nat) (x : Str) (ps : List Str) (sp : Sp) where
  f : Addr
  fd : FuncData
  G : FnOk P w K mg base CX0 k f fd ps sp
  kp : PySem.W.keepIn K (.ref f) = true
  g : mg x = some (.ref f)
  b : Binds K fd ps []
/-- a method of a class that may be called -/
structure Met (P : Program) (w : World) (K : PySem.W.Frag) (mg : Str → Option Value) (base : Heap) (k : Nat) (C : Addr) (x : Str) (ps : List Str) (sp : Sp) where
  f : Addr
  fd : FuncData
  c : Cls K C
  m : Meth K C x f
  G : FnOk P w K mg base CX0 k f fd ps sp
  b : Binds K fd ps []
/-- a class of which objects may be made -/
structure Mak (P : Program) (w : World) (K : PySem.W.Frag) (mg : Str → Option Value) (base : Heap) (k : Nat) (C : Addr) (x : Str) (ps : List Str) (sp : Sp) where
  f : Addr
  fd : FuncData
  M : Mk K C f
  G : FnOk P w K mg base CX0 k f fd ps sp
  g : mg x = some (.ref C)
  b : Binds K fd ps []
section
variable {X : Cx} {k j : Nat} {x : Str} {ps : List Str} {sp : Sp} {C : Addr} {p pos apos : Pos} {e o : Expr} {es : List Expr} {t : TA} {to : TE}
theorem pe_c (c : Cal X.prog X.w X.K X.mg X.base k x ps sp) (hr : Room j X.A) (hk : k ≤ j) (hg : Gl X x) (ha : PA X (e :: es) t) (hdb : (x == ("__debug__" : Str)) = false := by decide)
    (he : starEach (e :: es) X.env = (false, eval e X.env) :: starEach es X.env := by rfl) (hpl : (backTo pos (starEach es X.env)).any (·.1) = false := by rfl) : PE X (.Call (.Name x p) (e :: es) [] pos) (tCall sp [] E0 t) :=
  pe_call c.G (hr.mono hk) hg c.g c.kp c.b .nil pass0 ha hdb he hpl
end
end L2.My
end
section
set_option Elab.async false
set_option linter.all false
set_option maxRecDepth 100000
set_option maxHeartbeats 4000000
namespace L2.My
open PySem PySem.Spec PyProof.Rows
theorem sIx1 (n d : Nat) : HT.sIx n d (some 1) = min 1 n := HT.sIx_nat n d 1
theorem Paired.at {α β : Type} {R : α → β → Prop} {as : List α} {bs : List β} (h : Paired R as bs) {i : Nat} {b : β} (hb : bs[i]? = some b) : ∃ a, as[i]? = some a ∧ R a b := by
  induction h generalizing i with
  | nil => simp at hb
  | @cons x y xs ys r t ih =>
    cases i with
    | zero => simp only [List.getElem?_cons_zero, Option.some.injEq] at hb; subst hb; exact ⟨x, rfl, r⟩
    | succ i => rw [List.getElem?_cons_succ] at hb; obtain ⟨a, ha, hr⟩ := ih hb; exact ⟨a, by rw [List.getElem?_cons_succ]; exact ha, hr⟩
theorem Paired.at' {α β : Type} {R : α → β → Prop} {as : List α} {bs : List β} (h : Paired R as bs) {i : Nat} {a : α} (ha : as[i]? = some a) : ∃ b, bs[i]? = some b ∧ R a b := by
  induction h generalizing i with
  | nil => simp at ha
  | @cons x y xs ys r t ih =>
    cases i with
    | zero => simp only [List.getElem?_cons_zero, Option.some.injEq] at ha; subst ha; exact ⟨y, rfl, r⟩
    | succ i => rw [List.getElem?_cons_succ] at ha; obtain ⟨b, hb, hr⟩ := ih ha; exact ⟨b, by rw [List.getElem?_cons_succ]; exact hb, hr⟩
theorem Paired.len {α β : Type} {R : α → β → Prop} {as : List α} {bs : List β} (h : Paired R as bs) : as.length = bs.length := by
  induction h with
  | nil => rfl
  | cons _ _ ih => rw [List.length_cons, List.length_cons, ih]
theorem ref_at {as : List Addr} {i : Nat} {v : V} (h : (as.map V.ref)[i]? = some v) : ∃ a, as[i]? = some a ∧ v = .ref a := by
  rw [List.getElem?_map] at h
  cases e : as[i]? with
  | none => rw [e] at h; cases h
  | some a => rw [e] at h; exact ⟨a, rfl, (Option.some.inj h).symm⟩
theorem all_tt (n : Nat) : ((List.range n).map fun _ => true).all id = true := by simp
structure RuC (K : PySem.W.Frag) (C : Addr) : Prop where
  cls : Cls K C
  na : ∀ f ∈ (["clauses", "grounds"] : List Str), NoAttr K C f
/-- the data of a rule -/
structure GR (cs : List Cz) (gs : List (List Fc)) : Prop where
  cl : ∀ c ∈ cs, GC c
  gr : ∀ g ∈ gs, ∀ f ∈ g, GF f
  nc : cs.length ≤ 1000
  ng : gs.length ≤ 60
  nf : ∀ g ∈ gs, g.length ≤ 1000
def RuleAt (H : Hp) (C r dx ca ga : Addr) (cs : List Cz) (gs : List (List Fc)) : Prop := H r = some (.ins C dx [("clauses", .ref ca), ("grounds", .ref ga)]) ∧ ClsAt H ca cs ∧ GrsAt H ga gs
theorem RuleAt.keep {H H' : Hp} {C r dx ca ga : Addr} {cs : List Cz} {gs : List (List Fc)} (h : RuleAt H C r dx ca ga cs gs) (t : TK H H') (hr : H' r = H r) : RuleAt H' C r dx ca ga cs gs := ⟨hr.trans h.1, h.2.1.tk t, h.2.2.tk t⟩
theorem BL.put {L : List Addr} {H G : Hp} {p : Addr} {o : HO} (b : BL L H G) (h : H p = none) : BL L H (L2.upd G p o) := fun q u hq e => by
  rw [upd_ne (fun z => by rw [z, h] at e; cases e)]
  exact b q u hq e
theorem BL.nw {L : List Addr} {H G : Hp} {p : Addr} (b : BL L H G) (h : G p = none) (hp : p ∉ L) : H p = none := by
  cases e : H p with
  | none => rfl
  | some o => rw [b _ _ hp e] at h; cases h
theorem Paired.snoc {α β : Type} {R : α → β → Prop} {as : List α} {bs : List β} {a : α} {b : β} (h : Paired R as bs) (r : R a b) : Paired R (as ++ [a]) (bs ++ [b]) := by
  induction h with
  | nil => exact .cons r .nil
  | cons r' _ ih => exact .cons r' ih
theorem take_snoc {α : Type} {l : List α} {i : Nat} {a : α} (h : l[i]? = some a) : l.take (i + 1) = l.take i ++ [a] := by
  rw [List.take_add_one, h]; rfl
theorem same_put {H G : Hp} {p : Addr} {o : HO} (b : Same H G) (h : H p = none) : Same H (upd G p o) := fun q u e => by
  rw [upd_ne (fun z => by rw [z, h] at e; cases e)]
  exact b q u e
theorem paired_app {α β : Type} {R : α → β → Prop} {as cs : List α} {bs ds : List β} (h : Paired R as bs) (k : Paired R cs ds) : Paired R (as ++ cs) (bs ++ ds) := by
  induction h with
  | nil => exact k
  | cons r _ ih => exact .cons r ih
end L2.My
end
section
set_option Elab.async false
set_option linter.all false
set_option maxRecDepth 100000
set_option maxHeartbeats 4000000
namespace L2.My
open PySem PySem.Spec PyProof.Rows
theorem u2 {k : Nat} {A : Around} (h : Room k A) : A.units + 2 < cLine := by have := h.un; omega
/-! ### dicts of facts -/
theorem valV_iff {kvs : List (Fc × V)} {k : Fc} : valV kvs k = none ↔ k ∉ kvs.map (·.1) := by
  unfold valV
  rw [Option.map_eq_none_iff, List.find?_eq_none]
  constructor
  · intro h hm
    obtain ⟨x, hx, rfl⟩ := List.mem_map.mp hm
    exact h x hx (decide_eq_true rfl)
  · intro h x hx hk
    exact h (List.mem_map.mpr ⟨x, hx, of_decide_eq_true hk⟩)
theorem keys_putK {kvs : List (Fc × V)} {k : Fc} {v : V} : (putK kvs k v).map (·.1) = if k ∈ kvs.map (·.1) then kvs.map (·.1) else kvs.map (·.1) ++ [k] := by
  by_cases h : k ∈ kvs.map (·.1)
  · rw [if_pos h]
    have a : (kvs.any fun kv => decide (kv.1 = k)) = true := by
      obtain ⟨x, hx, e⟩ := List.mem_map.mp h
      exact List.any_eq_true.mpr ⟨x, hx, decide_eq_true e⟩
    unfold putK
    rw [if_pos a, List.map_map]
    refine List.map_congr_left fun x hx => ?_
    show (if x.1 = k then (x.1, v) else x).1 = x.1
    split <;> rfl
  · rw [if_neg h, putK_new v (valV_iff.mpr h), List.map_append]
    rfl
theorem dk_snoc (l : List Fc) (f : Fc) : dk (l ++ [f]) = if f ∈ dk l then dk l else dk l ++ [f] := by
  unfold dk
  rw [List.foldl_append]
  rfl
theorem dk_len (l : List Fc) : (dk l).length ≤ l.length := by
  have : ∀ (b a : List Fc), (b.foldl (fun a f => if f ∈ a then a else a ++ [f]) a).length ≤ a.length + b.length := by
    intro b
    induction b with
    | nil => intro a; simp
    | cons f r ih =>
      intro a
      rw [List.foldl_cons]
      refine Nat.le_trans (ih _) ?_
      split
      · simp only [List.length_cons]; omega
      · simp only [List.length_append, List.length_cons, List.length_nil]; omega
  exact Nat.le_trans (this l []) (by simp)
section
variable {J : It} {n : Nat} {G : Hp → Prop} {Y : Nat → Hp → V → Hp → Prop}
theorem dc_it (w : Walk J n G Y) {g : TG} {tt : TT} {tk tv : TE} {vs : List Nat} {σ : St} {H1 : Hp} {D : Addr} {Qd : Hp → Prop} (Pv : Nat → Hp → Prop) (h0 : Pv 0 (upd H1 D (.dT []))) (hG : ∀ i H, i ≤ n → Pv i H → G H)
    (hs : ∀ i x H H', i < n → Pv i H → Y i H x H' → g x (wipe σ vs) H' fun σ2 H2 => wipe σ2 vs = wipe σ vs ∧ tt σ2 H2 fun b H3 =>
      if b = true then tk σ2 H3 fun y H4 => tv σ2 H4 fun z H5 => ∃ kvs k b, y = .ref b ∧ H5 D = some (.dT kvs) ∧ H5 b = some (.tup (k.map kV)) ∧ kvs.length < sizeLine ∧ Pv (i + 1) (upd H5 D (.dT (putK kvs k z))) else Pv (i + 1) H3)
    (hd : ∀ H, Pv n H → Qd H) : ∃ W : Nat → Nat → Hp → Prop, (∃ m, W 0 m (upd H1 D (.dT []))) ∧ ∀ i m H, W i m H →
      (J.stop i H ∧ Qd H) ∨ (J.go i H ∧ ∃ Nx : Hp → Prop, (∀ H', Nx H' → ∃ m', m' < m ∧ W (i + 1) m' H') ∧ ∀ x H', J.yld i H x H' → g x (wipe σ vs) H' fun σ2 H2 => wipe σ2 vs = wipe σ vs ∧ tt σ2 H2 fun b H3 =>
        if b = true then tk σ2 H3 fun y H4 => tv σ2 H4 fun z H5 => ∃ kvs k b, y = .ref b ∧ H5 D = some (.dT kvs) ∧ H5 b = some (.tup (k.map kV)) ∧ kvs.length < sizeLine ∧ Nx (upd H5 D (.dT (putK kvs k z))) else Nx H3) := by
  refine ⟨fun i m H => i + m = n ∧ Pv i H, ⟨n, by omega, h0⟩, fun i m H ⟨e, h⟩ => ?_⟩
  have gi := hG i H (by omega) h
  by_cases hi : i < n
  · exact .inr ⟨w.goes i H hi gi, fun H' => Pv (i + 1) H', fun H' h' => ⟨m - 1, by omega, by omega, h'⟩, fun x H' y => hs i x H H' hi h (w.yields i H x H' hi gi y)⟩
  · obtain rfl : i = n := by omega
    exact .inl ⟨w.stops H gi, hd H h⟩
end
end L2.My
end
section
set_option Elab.async false
set_option linter.all false
set_option maxRecDepth 100000
set_option maxHeartbeats 4000000
namespace L2.My
open PySem PySem.Spec PyProof.Rows
/-! ### a dict comprehension as an assignment -/
section
variable {X : Cx}
theorem ps_setDcT {i : Nat} {y : Str} {py : Pos} {kx vx tg iter : Expr} {ifs : List Expr} {scope : Scope} {own : List (Str × Nat)} {pos spos : Pos} {wi : TI} {g : TG} {tt : TT} {tk tv : TE} (hu : X.A.units + 2 < cLine) (hc : X.calm = true) (hN : X.N.Nodup) (hy : X.N[i]? = some y) (hyl : X.env.scope.names.lookup y = some .local)
    (hsw : swapsWith (.DictComp kx vx [⟨tg, iter, ifs, 0⟩] scope pos) (some (.Name y py)) spos.line X.env = pure true) (hi : PI X tg iter wi) (ok : BlkOk X.N X.env.scope scope own)
    (hg : ∀ (s : Shared) (H : Hp) (C : Addr) (cl : List (Str × Addr)) (fp : List Addr), PG (X.blk s H scope (compEnvC scope cl C X.env) fp) tg g) (ht : ∀ (s : Shared) (H : Hp) (C : Addr) (cl : List (Str × Addr)) (fp : List Addr), PTs (X.blk s H scope (compEnvC scope cl C X.env) fp) ifs tt)
    (hk : ∀ (s : Shared) (H : Hp) (C : Addr) (cl : List (Str × Addr)) (fp : List Addr), PE (X.blk s H scope (compEnvC scope cl C X.env) fp) kx tk)
    (he : ∀ (s : Shared) (H : Hp) (C : Addr) (cl : List (Str × Addr)) (fp : List Addr), PE (X.blk s H scope (compEnvC scope cl C X.env) fp) vx tv) (hs : ∀ x, foldedSetIterable iter X.env x = pure x := by intro _; rfl) :
    PS X (.Assign [.Name y py] (.DictComp kx vx [⟨tg, iter, ifs, 0⟩] scope pos) spos) (tAsg (tDcT wi g tt tk tv (own.map (·.2))) (gName i)) := by
  refine ⟨fun pins s σ H D I h => ?_⟩
  rw [exec_Assign_Name_used _ _ _ _ hsw]
  refine wpAny_bind (wpAny_standAt (wpAny_bind ?_))
  show wpAny _ X.A (do let _ ← comprehension (.DictComp kx vx [⟨tg, iter, ifs, 0⟩] scope pos) scope X.env (firstIterPos [⟨tg, iter, ifs, 0⟩] pos) newDict false (eval iter X.env) (some (assign (.Name y py) X.env))) _ _ s
  have h : tDcT wi g tt tk tv (own.map (·.2)) σ H (fun x H1 => gName i x σ H1 D.nx) := h
  refine wpAny_bind (thn (dc_coreT (Qf := fun _ s' => SP X pins D .next s') hu hc hN I hi ok hg ht hk he hs h fun L C s' m H' I' q hn f => ?_) fun _ s' hq => wpAny_pure (wpAny_pure hq))
  show wpAny _ _ (assign (.Name y py) X.env (.ref L)) _ _ _
  refine wpAny_assign_Name (store_ok2 (v := V.ref L) I' hN hy (.inl hyl) rfl (fun s2 I2 ⟨a, sb, ha⟩ => ?_) (.inr hyl))
  obtain ⟨f0, f1, f2, f3, f4, f5⟩ := f
  have haC : C ≠ a := by
    rcases ha with z | z
    · rw [z]; exact f1
    · exact fun e => f4 y a z e.symm
  refine ⟨m, hn.sameBut sb haC, fun h3 sb3 => ?_⟩
  exact ⟨_, H', I2.turned (t' := s2.toks) (fun b o hb e => (sb3.2 b hb).trans e) f0 f1 f3 f4 f5, q⟩
theorem sw_trueD {kx vx : Expr} {gs : List Comprehension} {scope : Scope} {pos py : Pos} {y : Str} {l : Nat} {env : Env} (hk : env.scope.kind = .function) (hy : env.scope.names.lookup y = some .local) (hl : (py.line == pos.line) = true)
    (ha : (scope.names.any fun (n, k) => n == y && (k == .local || k == .cell)) = false) : swapsWith (.DictComp kx vx gs scope pos) (some (.Name y py)) l env = pure true := by
  have ky : env.kindOf y = some .local := hy
  have hb : env.blockKind = .function := by unfold Env.blockKind; rw [hk]; rfl
  unfold swapsWith
  simp only [hb, ky, ha, Expr.pos, hl]
  rfl
end
/-! ### its reading -/
def dl (kf : Nat → Fc) (fv : Nat → V) (n : Nat) : List (Fc × V) := (List.range n).foldl (fun a i => putK a (kf i) (fv i)) []
theorem dl_succ {kf : Nat → Fc} {fv : Nat → V} {n : Nat} : dl kf fv (n + 1) = putK (dl kf fv n) (kf n) (fv n) := by
  unfold dl
  rw [List.range_succ, List.foldl_append]
  rfl
theorem dl_len {kf : Nat → Fc} {fv : Nat → V} : ∀ {n : Nat}, (dl kf fv n).length ≤ n
  | 0 => Nat.le_refl _
  | n + 1 => by rw [dl_succ]; exact Nat.le_trans (length_putK _ _ _) (Nat.succ_le_succ dl_len)
theorem dl_keys {kf : Nat → Fc} {fv : Nat → V} : ∀ {n : Nat}, (dl kf fv n).map (·.1) = dk ((List.range n).map kf)
  | 0 => rfl
  | n + 1 => by
    rw [dl_succ, keys_putK, dl_keys, List.range_succ, List.map_append, List.map_singleton, dk_snoc]
theorem dl_val {kf : Nat → Fc} {fv : Nat → V} {f : Fc} {v : V} : ∀ {n : Nat}, valV (dl kf fv n) f = some v → ∃ i, i < n ∧ kf i = f ∧ v = fv i
  | 0, h => nomatch h
  | n + 1, h => by
    rw [dl_succ, valV_put] at h
    by_cases e : f = kf n
    · rw [if_pos e] at h
      exact ⟨n, Nat.lt_succ_self _, e.symm, (Option.some.inj h).symm⟩
    · rw [if_neg e] at h
      obtain ⟨i, hi, r⟩ := dl_val h
      exact ⟨i, Nat.lt_succ_of_lt hi, r⟩
section
variable {J : It} {n : Nat} {G : Hp → Prop} {Y : Nat → Hp → V → Hp → Prop}
theorem dcP (w : Walk J n G Y) {g : TG} {tk tv : TE} {vs : List Nat} {σ : St} {H1 : Hp} {D : Addr} {Qd : Hp → Prop} (kf : Nat → Fc) (fv : Nat → V) (hn : n < sizeLine) (hD : H1 D = none) (hG : ∀ H', Same H1 H' → G H')
    (hs : ∀ i x H H' (Q' : V → V → Hp → Prop), i < n → Same H1 H → Y i H x H' → (∀ H5 b, Same H H5 → H5 b = some (.tup ((kf i).map kV)) → Q' (.ref b) (fv i) H5) → g x (wipe σ vs) H' fun σ2 H2 => wipe σ2 vs = wipe σ vs ∧ tk σ2 H2 fun y H4 => tv σ2 H4 fun z H5 => Q' y z H5)
    (hd : ∀ H, Same H1 H → H D = some (.dT (dl kf fv n)) → Qd H) : ∃ W : Nat → Nat → Hp → Prop, (∃ m, W 0 m (upd H1 D (.dT []))) ∧ ∀ i m H, W i m H →
      (J.stop i H ∧ Qd H) ∨ (J.go i H ∧ ∃ Nx : Hp → Prop, (∀ H', Nx H' → ∃ m', m' < m ∧ W (i + 1) m' H') ∧ ∀ x H', J.yld i H x H' → g x (wipe σ vs) H' fun σ2 H2 => wipe σ2 vs = wipe σ vs ∧ tYes σ2 H2 fun b H3 =>
        if b = true then tk σ2 H3 fun y H4 => tv σ2 H4 fun z H5 => ∃ kvs k b, y = .ref b ∧ H5 D = some (.dT kvs) ∧ H5 b = some (.tup (k.map kV)) ∧ kvs.length < sizeLine ∧ Nx (upd H5 D (.dT (putK kvs k z))) else Nx H3) := by
  refine dc_it w (fun i H => Same H1 H ∧ H D = some (.dT (dl kf fv i))) ⟨same_upd hD, upd_same⟩ (fun i H _ h => hG H h.1) (fun i x H H' hi ⟨sm, hd⟩ y => ?_) fun H h => hd H h.1 h.2
  refine hs i x H H' _ hi sm y fun H5 b s5 hb => ?_
  refine ⟨_, kf i, b, rfl, s5 _ _ hd, hb, Nat.lt_of_le_of_lt dl_len (Nat.lt_trans hi hn), fun p o e => ?_, ?_⟩
  · rw [upd_ne (fun z => by rw [z, hD] at e; cases e)]
    exact s5 _ _ (sm _ _ e)
  · rw [dl_succ]; exact upd_same
end
/-! ### where a fact is used -/
def bo (cs : List Cz) (a : Nat) : List Fc := ((cs[a]?).map (·.1)).getD []
def us (cs : List Cz) (i : Nat) (f : Fc) : List Nat := (List.range i).filter fun a => decide (f ∈ bo cs a)
def nI (l : List Nat) : List V := l.map fun (n : Nat) => V.int n
def UsesAt (H : Hp) (u : Addr) (g : Fc → List Nat) (Pl : Addr → Prop) (N : Nat) : Prop := ∃ kvs : List (Fc × V), H u = some (.dT kvs) ∧ kvs.length ≤ N ∧ (∀ f, valV kvs f = none → g f = []) ∧ (∀ f v, valV kvs f = some v → ∃ l, v = .ref l ∧ H l = some (.lst (nI (g f))) ∧ Pl l) ∧ ∀ f f' l, valV kvs f = some (.ref l) → valV kvs f' = some (.ref l) → f = f'
def adds (g : Fc → List Nat) (f : Fc) (n : Nat) : Fc → List Nat := fun x => if x = f then g x ++ [n] else g x
theorem adds_eq {g : Fc → List Nat} {f : Fc} {n : Nat} : adds g f n f = g f ++ [n] := if_pos rfl
theorem adds_ne {g : Fc → List Nat} {f x : Fc} {n : Nat} (h : x ≠ f) : adds g f n x = g x := if_neg h
theorem UsesAt.ext {H : Hp} {u : Addr} {g g' : Fc → List Nat} {Pl : Addr → Prop} {N N' : Nat} (h : UsesAt H u g Pl N) (e : ∀ f, g f = g' f) (hN : N ≤ N') : UsesAt H u g' Pl N' := by
  obtain ⟨kvs, h1, h2, h3, h4, h5⟩ := h
  exact ⟨kvs, h1, Nat.le_trans h2 hN, fun f hf => (e f) ▸ h3 f hf, fun f v hv => by rw [← e f]; exact h4 f v hv, h5⟩
theorem UsesAt.bl {H H' : Hp} {u : Addr} {g : Fc → List Nat} {Pl : Addr → Prop} {N : Nat} (h : UsesAt H u g Pl N) (L : List Addr) (b : BL L H H') (hu : u ∉ L) (hl : ∀ l, Pl l → l ∉ L) : UsesAt H' u g Pl N := by
  obtain ⟨kvs, h1, h2, h3, h4, h5⟩ := h
  exact ⟨kvs, b _ _ hu h1, h2, h3, fun f v hv => let ⟨l, a1, a2, a3⟩ := h4 f v hv; ⟨l, a1, b _ _ (hl l a3) a2, a3⟩, h5⟩
theorem UsesAt.old {H : Hp} {u l : Addr} {g : Fc → List Nat} {Pl : Addr → Prop} {N : Nat} {kvs : List (Fc × V)} {f : Fc} {n : Nat} (h : UsesAt H u g Pl N) (hk : H u = some (.dT kvs)) (hv : valV kvs f = some (.ref l)) : UsesAt (upd H l (.lst (nI (g f ++ [n])))) u (adds g f n) Pl N := by
  obtain ⟨kvs', h1, h2, h3, h4, h5⟩ := h
  rw [hk] at h1
  cases h1
  obtain ⟨l', e, hl, pl⟩ := h4 f _ hv
  cases e
  have ne : u ≠ l := fun z => by rw [z, hl] at hk; cases hk
  refine ⟨kvs, by rw [upd_ne ne]; exact hk, h2, fun x hx => ?_, fun x v hx => ?_, h5⟩
  · rw [adds_ne (fun z => by rw [z, hv] at hx; cases hx)]
    exact h3 x hx
  · obtain ⟨m, rfl, hm, pm⟩ := h4 x v hx
    by_cases e : x = f
    · subst e
      rw [hv] at hx
      cases hx
      exact ⟨l, rfl, by rw [upd_same, adds_eq], pl⟩
    · refine ⟨m, rfl, ?_, pm⟩
      rw [adds_ne e, upd_ne (fun z => e (h5 x f l (by rw [← z]; exact hx) hv))]
      exact hm
theorem UsesAt.new {H : Hp} {u l : Addr} {g : Fc → List Nat} {Pl : Addr → Prop} {N : Nat} {kvs : List (Fc × V)} {f : Fc} {n : Nat} (h : UsesAt H u g Pl N) (hk : H u = some (.dT kvs)) (hv : valV kvs f = none) (hl : H l = none) (pl : Pl l) :
    UsesAt (upd (upd (upd H l (.lst [])) u (.dT (putK kvs f (.ref l)))) l (.lst (nI [n]))) u (adds g f n) Pl (N + 1) := by
  obtain ⟨kvs', h1, h2, h3, h4, h5⟩ := h
  rw [hk] at h1
  cases h1
  have ne : u ≠ l := fun z => by rw [z, hl] at hk; cases hk
  have nl : ∀ x, valV kvs x ≠ some (.ref l) := fun x hx => by
    obtain ⟨m, e, hm, _⟩ := h4 x _ hx
    cases e
    rw [hl] at hm; cases hm
  refine ⟨putK kvs f (.ref l), by rw [upd_ne ne, upd_same], Nat.le_trans (length_putK _ _ _) (Nat.succ_le_succ h2), fun x hx => ?_, fun x v hx => ?_, fun x y m hx hy => ?_⟩
  · rw [valV_put] at hx
    by_cases e : x = f
    · rw [if_pos e] at hx; cases hx
    · rw [if_neg e] at hx; rw [adds_ne e]; exact h3 x hx
  · rw [valV_put] at hx
    by_cases e : x = f
    · rw [if_pos e] at hx
      cases hx
      exact ⟨l, rfl, by rw [upd_same, e, adds_eq, h3 f hv]; rfl, pl⟩
    · rw [if_neg e] at hx
      rw [adds_ne e]
      obtain ⟨m, rfl, hm, pm⟩ := h4 x v hx
      have n1 : m ≠ l := fun z => nl x (by rw [← z]; exact hx)
      have n2 : m ≠ u := fun z => by rw [z, hk] at hm; cases hm
      exact ⟨m, rfl, by rw [upd_ne n1, upd_ne n2, upd_ne n1]; exact hm, pm⟩
  · rw [valV_put] at hx hy
    by_cases e : x = f
    · by_cases e' : y = f
      · rw [e, e']
      · rw [if_pos e] at hx; rw [if_neg e'] at hy
        cases hx
        exact absurd hy (nl y)
    · by_cases e' : y = f
      · rw [if_neg e] at hx; rw [if_pos e'] at hy
        cases hy
        exact absurd hx (nl x)
      · rw [if_neg e] at hx; rw [if_neg e'] at hy
        exact h5 x y m hx hy
end L2.My
end
section
set_option Elab.async false
set_option linter.all false
set_option maxRecDepth 100000
set_option maxHeartbeats 4000000
namespace L2.My
open PySem PySem.Spec PyProof.Rows
/-! ### the deriver's making -/
structure DeC (K : PySem.W.Frag) (D : Addr) : Prop where
  cls : Cls K D
  na : ∀ f ∈ (["rule", "uses", "sizes", "bare"] : List Str), NoAttr K D f
def szs (cs : List Cz) (i : Nat) : List Nat := (List.range i).map fun a => (dk (bo cs a)).length
def bares (cs : List Cz) : List Nat := (List.range cs.length).filter fun a => decide ((dk (bo cs a)).length = 0)
def DerAt (H : Hp) (D x dx r u z b : Addr) (cs : List Cz) : Prop :=
  H x = some (.ins D dx [("rule", .ref r), ("uses", .ref u), ("sizes", .ref z), ("bare", .ref b)]) ∧ UsesAt H u (us cs cs.length) (fun _ => True) 4000 ∧ H z = some (.lst (nI (szs cs cs.length))) ∧ H b = some (.lst (nI (bares cs)))
def spDer (C D : Addr) : Sp := fun vs H Q _ => ∃ x dx r dr ca ga cs gs, vs = [.ref x, .ref r] ∧ H x = some (.ins D dx []) ∧ RuleAt H C r dr ca ga cs gs ∧ GR cs gs ∧ ∀ H' u z b, BL [x] H H' → DerAt H' D x dx r u z b cs → Q .non H'
theorem range_getD (l : List Fc) : ((List.range l.length).map fun j => l.getD j []) = l := by
  refine List.ext_getElem (by simp) fun i h1 h2 => ?_
  simp only [List.getElem_map, List.getElem_range, List.getD_eq_getElem?_getD]
  rw [List.getElem?_eq_getElem h2]
  rfl
theorem us_succ {cs : List Cz} {i : Nat} {f : Fc} : us cs (i + 1) f = if f ∈ bo cs i then us cs i f ++ [i] else us cs i f := by
  unfold us
  rw [List.range_succ, List.filter_append]
  by_cases h : f ∈ bo cs i
  · rw [if_pos h]; simp [h]
  · rw [if_neg h]; simp [h]
/-- within clause i, behind j keys -/
def ug (cs : List Cz) (i j : Nat) (f : Fc) : List Nat := if f ∈ (dk (bo cs i)).take j then us cs i f ++ [i] else us cs i f
theorem ug_zero {cs : List Cz} {i : Nat} {f : Fc} : ug cs i 0 f = us cs i f := by unfold ug; simp
theorem ug_all {cs : List Cz} {i : Nat} {f : Fc} : ug cs i (dk (bo cs i)).length f = us cs (i + 1) f := by
  unfold ug
  rw [List.take_length, us_succ]
  by_cases h : f ∈ bo cs i
  · rw [if_pos (mem_dk.mpr h), if_pos h]
  · rw [if_neg (fun z => h (mem_dk.mp z)), if_neg h]
theorem ug_succ {cs : List Cz} {i j : Nat} {k f : Fc} (hk : (dk (bo cs i))[j]? = some k) : ug cs i (j + 1) f = adds (ug cs i j) k i f := by
  have hj : j < (dk (bo cs i)).length := (List.getElem?_eq_some_iff.mp hk).1
  have tk : (dk (bo cs i)).take (j + 1) = (dk (bo cs i)).take j ++ [k] := by
    rw [List.take_add_one, hk]; rfl
  have nd := dk_nodup (bo cs i)
  by_cases e : f = k
  · subst e
    rw [adds_eq]
    have hn : f ∉ (dk (bo cs i)).take j := fun hm => by
      obtain ⟨m, hm1, hm2⟩ := List.mem_iff_getElem.mp hm
      rw [List.length_take] at hm1
      rw [List.getElem_take] at hm2
      have hk2 := (List.getElem?_eq_some_iff.mp hk).2
      exact absurd (hm2.trans hk2.symm) (List.pairwise_iff_getElem.mp nd m j (by omega) hj (by omega))
    unfold ug
    rw [tk, if_pos (by simp), if_neg hn]
  · rw [adds_ne e]
    unfold ug
    rw [tk]
    by_cases h : f ∈ (dk (bo cs i)).take j
    · rw [if_pos h, if_pos (List.mem_append_left _ h)]
    · rw [if_neg h, if_neg (by simp [h, e])]
theorem UsesAt.put {H : Hp} {u d : Addr} {g : Fc → List Nat} {Pl : Addr → Prop} {N : Nat} {o o' : HO} (h : UsesAt H u g Pl N) (hd : H d = some o) (ho : ∀ xs, o ≠ .lst xs) (hu : u ≠ d) : UsesAt (L2.upd H d o') u g Pl N := by
  obtain ⟨kvs, h1, h2, h3, h4, h5⟩ := h
  refine ⟨kvs, by rw [upd_ne hu]; exact h1, h2, h3, fun f v hv => ?_, h5⟩
  obtain ⟨l, e, hl, pl⟩ := h4 f v hv
  refine ⟨l, e, ?_, pl⟩
  rw [upd_ne (fun z => by rw [z, hd] at hl; exact ho _ (Option.some.inj hl))]
  exact hl
theorem szs_len {cs : List Cz} {n : Nat} : (nI (szs cs n)).length = n := by unfold nI szs; simp
theorem szs_at {cs : List Cz} {n i : Nat} (h : i < n) : (nI (szs cs n))[i]? = some (V.int (((dk (bo cs i)).length : Nat) : Int)) := by
  unfold nI szs
  rw [List.map_map, List.getElem?_map, List.getElem?_range h]
  rfl
theorem fm_if {α β : Type} {p : α → Prop} [DecidablePred p] {g : α → β} : ∀ (l : List α), (l.filterMap fun i => if p i then some (g i) else none) = (l.filter fun i => decide (p i)).map g
  | [] => rfl
  | a :: l => by
    by_cases h : p a
    · rw [List.filterMap_cons_some (by rw [if_pos h]), List.filter_cons_of_pos (by simpa using h), List.map_cons, fm_if l]
    · rw [List.filterMap_cons_none (by rw [if_neg h]), List.filter_cons_of_neg (by simpa using h), fm_if l]
theorem UsesAt.wk {H : Hp} {u : Addr} {g : Fc → List Nat} {Pl Pl' : Addr → Prop} {N : Nat} (h : UsesAt H u g Pl N) (w : ∀ l, Pl l → Pl' l) : UsesAt H u g Pl' N := by
  obtain ⟨kvs, h1, h2, h3, h4, h5⟩ := h
  exact ⟨kvs, h1, h2, h3, fun f v hv => let ⟨l, a1, a2, a3⟩ := h4 f v hv; ⟨l, a1, a2, w _ a3⟩, h5⟩
abbrev nDe : List Str := ["self", "rule", "at", "clause", "body", "fact", "size"]
section
variable {P : Program} {w : World} {K : PySem.W.Frag} {mg : Str → Option Value} {base : Heap} {C D : Addr}
theorem scDe : FnScope nDe ["self", "rule"] (defScope (mD 0)) := ⟨rfl, rfl, rfl, by decide +kernel, rfl, by decide +kernel, by decide +kernel⟩
theorem ok_der {f : Addr} {fd : FuncData} {k : Nat} (F : Fun K "__init__" "Deriver.__init__" (mD 0) f fd) (T : Tx mg) (rc : RuC K C) (c : DeC K D) : FnOk P w K mg base CX0 (k + 1) f fd ["self", "rule"] (spDer C D) := by
  refine F.ok scDe (fun vs H Q E h => ?_) (fun cdv A outer s H vs Q E hr h => ?_)
  · obtain ⟨x, dx, r, dr, ca, ga, cs, gs, rfl, _⟩ := h
    rfl
  · obtain ⟨x, dx, r, dr, ca, ga, cs, gs, rfl, hx, hR, hG, q⟩ := h
    refine ⟨_, (pss_cons (ps_fld (pv 0) (pv 1) rfl) (pss_cons (ps_fld (pv 0) pe_dnewT rfl) (pss_cons (ps_fld (pv 0) (pe_lst pa_nil) rfl) (pss_cons (ps_for PassesOwn.never rfl (pi_enT (by rfl) T.enum_ (pa_cons (pe_fld (pv 1) rfl) pa_nil)) (pg_tup rfl (pgs_cons (pg_name (i := 2) scDe.nd rfl (Or.inl rfl)) (pgs_cons (pg_name (i := 3) scDe.nd rfl (Or.inl rfl)) pgs_nil))) (pss_cons (ps_setDcT (own := [("fact", 5)]) (i := 4) (g := gName 5) (u2 hr) rfl scDe.nd rfl rfl (sw_trueD rfl rfl rfl (by decide +kernel)) (pi_tup (pe_ix ix_tup (pv 3) pe_int (fun _ _ => rfl))) (blkOk_by (N := nDe) (sc := defScope (mD 0)) (by decide +kernel)) (fun _ _ _ _ _ => pg_name (i := 5) scDe.nd rfl (Or.inl rfl)) (fun _ _ _ _ _ => pts_nil) (fun _ _ _ _ _ => (pv 5)) (fun _ _ _ _ _ => pe_bl)) (pss_cons (ps_expr (pe_bm PySem.F.plainAttrs_list PySem.F.slot_list_append PySem.F.type_list_append mt_append (pe_fld (pv 0) rfl) (pa_cons (pe_callB call_len_dT (by rfl) T.len_ PySem.boot_len (pa_cons (pv 4) pa_nil)) pa_nil))) (pss_one (ps_lock (ps_for PassesOwn.never rfl (pi_keys (pv 4)) (pg_name (i := 5) scDe.nd rfl (Or.inl rfl)) (pss_one (ps_expr (pe_bm PySem.F.plainAttrs_list PySem.F.slot_list_append PySem.F.type_list_append mt_append (pe_dsetT (u2 hr) (pe_fld (pv 0) rfl) (pv 5) (pe_lst pa_nil) ⟨rfl, rfl, rfl, rfl⟩) (pa_cons (pv 2) pa_nil)))))))))) (pss_one (ps_fld (pv 0) (pe_lc (own := [("at", 2), ("size", 6)]) (g := gTup K 2 (gCons (gName 2) (gCons (gName 6) gNil))) rfl scDe.nd (pi_enum (by rfl) T.enum_ (pa_cons (pe_fld (pv 0) rfl) pa_nil)) (blkOk_by (N := nDe) (sc := defScope (mD 0)) (by decide +kernel)) (fun _ _ _ _ _ => pg_tup rfl (pgs_cons (pg_name (i := 2) scDe.nd rfl (Or.inl rfl)) (pgs_cons (pg_name (i := 6) scDe.nd rfl (Or.inl rfl)) pgs_nil))) (fun _ _ _ _ _ => pts_one (pt_cmpR op_eq (pv 6) pe_int (nomark _))) (fun _ _ _ _ _ => (pv 2))) rfl)))))), ?_⟩
    refine ⟨_, rfl, _, rfl, x, D, dx, _, rfl, hx, c.cls, c.na _ (by simp), by show 0 < 1000; decide, ?_⟩
    intro u nu
    have xu : x ≠ u := fun z => by rw [← z, upd_same] at nu; cases nu
    refine ⟨_, rfl, x, D, dx, _, rfl, by rw [upd_ne xu, upd_same], c.cls, c.na _ (by simp), by show 1 < 1000; decide, ?_⟩
    refine ⟨by decide, fun z nz => ?_⟩
    have xz : x ≠ z := fun e => by rw [← e, upd_same] at nz; cases nz
    refine ⟨_, rfl, x, D, dx, _, rfl, by rw [upd_ne xz, upd_same], c.cls, c.na _ (by simp), by show 2 < 1000; decide, ?_⟩
    rw [upd_ne (Ne.symm xz)] at nz
    rw [upd_ne (Ne.symm xu)] at nu
    have uz : u ≠ z := fun e => by rw [← e, upd_same] at nz; cases nz
    rw [upd_ne (Ne.symm uz), upd_ne (Ne.symm xz)] at nz
    generalize hH1 : upd (upd (upd (upd (upd H x _) u _) x _) z _) x _ = H1
    have b1 : BL [x] H H1 := by
      rw [← hH1]
      refine BL.trans (BL.put (BL.trans (BL.put (BL.upd (by simp)) nu) (BL.upd (by simp))) nz) (BL.upd (by simp))
    have hx1 : H1 x = some (.ins D dx [("rule", .ref r), ("uses", .ref u), ("sizes", .ref z)]) := by rw [← hH1, upd_same]; rfl
    have hu1 : H1 u = some (.dT []) := by rw [← hH1, upd_ne (Ne.symm xu), upd_ne uz, upd_ne (Ne.symm xu), upd_same]
    have hz1 : H1 z = some (.lst []) := by rw [← hH1, upd_ne (Ne.symm xz), upd_same]
    have hHz : H z = none := nz
    have hHu : H u = none := nu
    clear hH1
    have tkx : ∀ {G : Hp}, BL [x] H G → TK H G := fun b => TK.bl b (fun p hp xs e => by rw [List.mem_singleton.mp hp, hx] at e; cases e)
    have nxr : r ≠ x := fun e => by
      have := hR.1
      rw [e, hx] at this
      have := congrArg (fun o => match o with | some (HO.ins _ _ l) => l.length | _ => 7) this
      simp at this
    have hRk : ∀ {G : Hp}, BL [x] H G → RuleAt G C r dr ca ga cs gs := fun b => hR.keep (tkx b) ((b r _ (by simpa using nxr) hR.1).trans hR.1.symm)
    obtain ⟨as, ha, hp⟩ := id hR.2.1
    have la := Paired.len hp
    -- the loop
    let DI : Nat → Hp → Prop := fun i G => BL [x] H G ∧ G x = some (.ins D dx [("rule", .ref r), ("uses", .ref u), ("sizes", .ref z)]) ∧ G z = some (.lst (nI (szs cs i))) ∧ UsesAt G u (us cs i) (fun l => H l = none ∧ l ≠ z) (4 * i)
    have d0 : DI 0 H1 := ⟨b1, hx1, hz1, [], hu1, Nat.le_refl _, fun _ _ => rfl, fun f v h => (nomatch h), fun f f' l h => (nomatch h)⟩
    refine ⟨_, rfl, r, C, dr, _, _, rfl, (hRk b1).1, rc.cls, rc.na _ (by simp), rfl, ca, _, rfl, .of (tkx b1 _ _ ha), ?_⟩
    refine for_it (walk_enT (xs := as.map V.ref)) (fun i σ G => ∃ y2 y3 y4 y5, σ = [some (.ref x), some (.ref r), y2, y3, y4, y5, none] ∧ DI i G) ⟨_, _, _, _, rfl, d0⟩ (fun i σ G _ h => ?_) ?_ ?_
    · obtain ⟨_, _, _, _, rfl, hb, _⟩ := h
      exact .of (tkx hb _ _ ha)
    · rintro i v σ G G' hi ⟨y2, y3, y4, y5, rfl, hb, gx, gz, gu⟩ ⟨p, u1, u2, rfl, np, rfl, e1, e2⟩
      cases Option.some.inj e1
      obtain ⟨pc, hpc, rfl⟩ := ref_at e2
      obtain ⟨c0, hc0, hcl⟩ := Paired.at' hp hpc
      have s1 : Same G (upd G p (.tup [.int (i : Nat), .ref pc])) := same_upd np
      refine ⟨p, _, rfl, .of upd_same, rfl, _, _, rfl, _, _, rfl, rfl, ?_⟩
      have gc := hG.cl c0 (List.mem_of_getElem? hc0)
      have ebo : bo cs i = c0.1 := by unfold bo; rw [hc0]; rfl
      have b2 : BL [x] H (upd G p (.tup [.int (i : Nat), .ref pc])) := hb.trans (.same s1)
      obtain ⟨pb, ph, hpc2, ⟨bs, hbs, hbp⟩, hph⟩ := hcl.tk (tkx b2)
      have lb := Paired.len hbp
      generalize hG2 : upd G p (.tup [.int (i : Nat), .ref pc]) = G2 at *
      refine ⟨_, rfl, pc, _, _, .ref pb, rfl, rfl, .of hpc2, atI_nat (j := 0) rfl, pb, rfl, ⟨_, .of hbs⟩, fun Dd hDd => ?_⟩
      refine dcP walk_tup (fun j => (bo cs i).getD j []) (fun _ => V.bl true) ?_ hDd (fun _ sm => seqT sm (.of hbs)) ?_ ?_
      · rw [List.length_map, lb]; exact Nat.lt_of_le_of_lt gc.1 (by decide)
      · rintro j y H3 H4 Q' hj sm ⟨rfl, hy⟩ hq
        obtain ⟨q1, hq1, rfl⟩ := ref_at hy
        obtain ⟨g, hg1, hg2⟩ := Paired.at' hbp hq1
        refine ⟨rfl, _, rfl, hq _ _ (Same.refl _) ?_⟩
        have e3 : (bo cs i).getD j [] = g := by rw [ebo, List.getD_eq_getElem?_getD, hg1]; rfl
        rw [e3]
        exact sm _ _ hg2
      · intro H3 s3 hd3
        have ek : (dl (fun j => (bo cs i).getD j []) (fun _ => V.bl true) (bs.map V.ref).length).map (·.1) = dk (bo cs i) := by
          rw [dl_keys, List.length_map, lb, ← ebo, range_getD]
        generalize hkvs : dl (fun j => (bo cs i).getD j []) (fun _ => V.bl true) (bs.map V.ref).length = kvs at hd3 ek
        have lk : kvs.length = (dk (bo cs i)).length := by rw [← ek, List.length_map]
        have lk4 : kvs.length ≤ 4 := by rw [lk]; exact Nat.le_trans (dk_len _) (by rw [ebo]; exact gc.1)
        have s13 : Same G H3 := s1.trans s3
        have hs4 : nI (szs cs i) ++ [V.int ((kvs.length : Nat) : Int)] = nI (szs cs (i + 1)) := by
          unfold nI szs
          rw [List.range_succ, List.map_append, List.map_append, lk]
          rfl
        have nzD : z ≠ Dd := fun e => by rw [e] at gz; rw [s1 _ _ gz] at hDd; cases hDd
        have nxD : x ≠ Dd := fun e => by rw [e] at gx; rw [s1 _ _ gx] at hDd; cases hDd
        have hHD : H Dd = none := b2.nw hDd (by simpa using Ne.symm nxD)
        have nxz : x ≠ z := xz
        refine ⟨_, rfl, x, D, dx, _, _, rfl, s13 _ _ gx, c.cls, c.na _ (by simp), rfl, .inl ⟨rfl, _, SqL.of (s13 _ _ gz)⟩, _, rfl, Dd, kvs, rfl, hd3, z, _, _, rfl, rfl, s13 _ _ gz, ?_, ?_⟩
        · have : (nI (szs cs i)).length = i := by unfold nI szs; simp
          have := hG.nc
          rw [List.length_map] at hi
          exact Nat.lt_of_le_of_lt (show (nI (szs cs i)).length ≤ 1000 by omega) (by decide)
        rw [hs4]
        have uD : u ≠ Dd := fun e => by
          obtain ⟨kv2, hk2, _⟩ := gu
          rw [e] at hk2
          rw [s1 _ _ hk2] at hDd
          cases hDd
        refine ⟨Dd, .dT kvs, by rw [upd_ne (Ne.symm nzD)]; exact hd3, trivial, fun od => ?_⟩
        refine ⟨_, rfl, Dd, od, rfl, .inr ⟨kvs, upd_same, ?_⟩⟩
        have gu4 : UsesAt (upd (upd H3 z (.lst (nI (szs cs (i + 1))))) Dd (.frz od (.dT kvs))) u (ug cs i 0) (fun l => H l = none ∧ l ≠ z) (4 * i) := by
          refine UsesAt.put (o := .dT kvs) ?_ (by rw [upd_ne (Ne.symm nzD)]; exact hd3) (fun xs e => by cases e) uD
          refine UsesAt.bl (UsesAt.ext (gu.bl [] (.same s13) (by simp) (by simp)) (fun f => ug_zero.symm) (Nat.le_refl _)) [z] (BL.upd (by simp)) (by simpa using uz) fun l hl => by simpa using hl.2
        have b4 : BL [x] H (upd (upd H3 z (.lst (nI (szs cs (i + 1))))) Dd (.frz od (.dT kvs))) := BL.put (BL.put (b2.trans (.same s3)) hHz) hHD
        have gx4 : (upd (upd H3 z (.lst (nI (szs cs (i + 1))))) Dd (.frz od (.dT kvs))) x = some (.ins D dx [("rule", .ref r), ("uses", .ref u), ("sizes", .ref z)]) := by rw [upd_ne nxD, upd_ne xz]; exact s13 _ _ gx
        have gz4 : (upd (upd H3 z (.lst (nI (szs cs (i + 1))))) Dd (.frz od (.dT kvs))) z = some (.lst (nI (szs cs (i + 1)))) := by rw [upd_ne nzD, upd_same]
        have gd4 : (upd (upd H3 z (.lst (nI (szs cs (i + 1))))) Dd (.frz od (.dT kvs))) Dd = some (.frz od (.dT kvs)) := upd_same
        refine for_it (walk_keysT (kvs := kvs)) (fun j σ G => ∃ y5, σ = [some (.ref x), some (.ref r), some (.int (i : Nat)), some (.ref pc), some (.ref Dd), y5, none] ∧ G Dd = some (.frz od (.dT kvs)) ∧ BL [x] H G ∧ G x = some (.ins D dx [("rule", .ref r), ("uses", .ref u), ("sizes", .ref z)]) ∧ G z = some (.lst (nI (szs cs (i + 1)))) ∧ UsesAt G u (ug cs i j) (fun l => H l = none ∧ l ≠ z) (4 * i + j)) ⟨_, rfl, gd4, b4, gx4, gz4, gu4⟩ (fun j σ G _ h => ?_) ?_ ?_
        · obtain ⟨_, rfl, hd, _⟩ := h
          exact hd
        · rintro j v σ G5 G5' hj ⟨y5, rfl, gd5, b5, gx5, gz5, gu5⟩ ⟨rfl, ky, vv, qq, hkv, rfl, hqq⟩
          have hdk : (dk (bo cs i))[j]? = some ky := by rw [← ek, List.getElem?_map, hkv]; rfl
          obtain ⟨kv2, hk2, hl2, h3, h4, h5⟩ := id gu5
          have hj4 : j < 4 := by omega
          have hi' : i < 1000 := by have := hG.nc; rw [List.length_map] at hi; omega
          refine ⟨_, rfl, x, D, dx, _, _, rfl, gx5, c.cls, c.na _ (by simp), rfl, u, rfl, .inr ⟨kv2, .of hk2⟩, _, rfl, by decide, fun l nl => ?_⟩
          have nul : u ≠ l := fun e => by rw [← e, hk2] at nl; cases nl
          have nxl : x ≠ l := fun e => by rw [← e, gx5] at nl; cases nl
          have nzl : z ≠ l := fun e => by rw [← e, gz5] at nl; cases nl
          have ndl : Dd ≠ l := fun e => by rw [← e, gd5] at nl; cases nl
          have nql : qq ≠ l := fun e => by rw [← e, hqq] at nl; cases nl
          have hHl : H l = none := b5.nw nl (by simpa using Ne.symm nxl)
          refine ⟨kv2, ky, qq, by rw [upd_ne nul]; exact hk2, rfl, by rw [upd_ne nql]; exact hqq, ?_, fun v hv => ?_, fun hn => ?_⟩
          · exact Nat.lt_of_le_of_lt (show kv2.length ≤ 5000 by omega) (by decide)
          · obtain ⟨m, rfl, hm, hml, hmz⟩ := h4 ky v hv
            have nml : m ≠ l := fun e => by rw [e] at hm; rw [hm] at nl; cases nl
            have nmx : m ≠ x := fun e => by rw [e, gx5] at hm; cases hm
            have nmd : m ≠ Dd := fun e => by rw [e, gd5] at hm; cases hm
            have hm' : (upd G5' l (.lst [])) m = some (.lst (nI (ug cs i j ky))) := by rw [upd_ne nml]; exact hm
            have hlen : (nI (ug cs i j ky)).length ≤ i + 1 := by
              unfold nI ug us
              have := List.length_filter_le (fun a => decide (ky ∈ bo cs a)) (List.range i)
              rw [List.length_range] at this
              split <;> simp <;> omega
            refine ⟨.inl ⟨rfl, _, SqL.of hm'⟩, _, rfl, m, _, _, rfl, rfl, hm', Nat.lt_of_le_of_lt (Nat.le_trans hlen (show i + 1 ≤ 1001 by omega)) (by decide), ?_⟩
            refine ⟨_, rfl, ?_, ?_, ?_, ?_, ?_⟩
            · rw [upd_ne (Ne.symm nmd), upd_ne ndl]; exact gd5
            · exact BL.put (BL.put b5 hHl) hml
            · rw [upd_ne (Ne.symm nmx), upd_ne nxl]; exact gx5
            · rw [upd_ne (Ne.symm hmz), upd_ne nzl]; exact gz5
            · have g6 : UsesAt (upd G5' l (.lst [])) u (ug cs i j) (fun l => H l = none ∧ l ≠ z) (4 * i + j) := gu5.bl [] (.same (same_upd nl)) (by simp) (by simp)
              have g7 := g6.old (n := i) (f := ky) (by rw [upd_ne nul]; exact hk2) hv
              have e7 : nI (ug cs i j ky) ++ [V.int (i : Nat)] = nI (ug cs i j ky ++ [i]) := by unfold nI; rw [List.map_append]; rfl
              rw [e7]
              exact g7.ext (fun f => (ug_succ hdk).symm) (by omega)
          · refine ⟨.inl ⟨rfl, _, SqL.of (a := l) (xs := []) (by rw [upd_ne (Ne.symm nul), upd_same])⟩, _, rfl, l, [], _, rfl, rfl, by rw [upd_ne (Ne.symm nul), upd_same], by decide, ?_⟩
            refine ⟨_, rfl, ?_, ?_, ?_, ?_, ?_⟩
            · rw [upd_ne ndl, upd_ne (Ne.symm uD), upd_ne ndl]; exact gd5
            · exact BL.put (BL.put (BL.put b5 hHl) hHu) hHl
            · rw [upd_ne nxl, upd_ne xu, upd_ne nxl]; exact gx5
            · rw [upd_ne nzl, upd_ne (Ne.symm uz), upd_ne nzl]; exact gz5
            · have g7 := gu5.new (n := i) (f := ky) hk2 hn nl ⟨hHl, Ne.symm nzl⟩
              exact g7.ext (fun f => (ug_succ hdk).symm) (by omega)
        · rintro σ G5 ⟨y5, rfl, gd5, b5, gx5, gz5, gu5⟩
          refine ⟨gd5, _, _, _, _, rfl, BL.put b5 hHD, by rw [upd_ne nxD]; exact gx5, by rw [upd_ne nzD]; exact gz5, ?_⟩
          rw [lk] at gu5
          refine (UsesAt.put gu5 gd5 (fun xs e => by cases e) uD).ext (fun f => ug_all) (by omega)
    · rintro σ G ⟨y2, y3, y4, y5, rfl, hb, gx, gz, gu⟩
      rw [List.length_map, la] at gz gu
      refine ⟨_, rfl, x, D, dx, _, _, rfl, gx, c.cls, c.na _ (by simp), rfl, z, _, rfl, SqL.of gz, fun Db hDb => ?_⟩
      refine lcF walk_enum (fun i => if (dk (bo cs i)).length = 0 then some (V.int (i : Nat)) else none) ?_ hDb (fun _ sm => SqL.of (sm _ _ gz)) ?_ ?_
      · rw [szs_len]
        exact Nat.lt_of_le_of_lt hG.nc (by decide)
      · rintro i v H3 H4 Q' N' hi sm ⟨p, u1, u2, rfl, np, rfl, e1, e2⟩ hq hn
        cases Option.some.inj e1
        obtain rfl : u2 = V.int (((dk (bo cs i)).length : Nat) : Int) := by
          have e3 : (nI (szs cs cs.length))[i]? = some u2 := e2
          rw [szs_at (by rw [szs_len] at hi; exact hi)] at e3
          exact (Option.some.inj e3).symm
        refine ⟨p, _, rfl, .of upd_same, rfl, _, _, rfl, _, _, rfl, rfl, rfl, ?_⟩
        refine ⟨_, rfl, rfl, _, rfl, ?_⟩
        by_cases e0 : (dk (bo cs i)).length = 0
        · rw [e0]
          exact ⟨_, rfl, hq _ (by rw [if_pos e0]) _ (same_upd np)⟩
        · have en : ¬ ((((dk (bo cs i)).length : Nat) : Int) = 0) := by omega
          have hb0 : decide (V.int (((dk (bo cs i)).length : Nat) : Int) = V.int 0) = false := decide_eq_false (fun z => en (V.int.inj z))
          rw [hb0]
          exact hn (by rw [if_neg e0]) _ (same_upd np)
      · intro H' sm hd
        have gx2 := sm _ _ gx
        refine ⟨_, rfl, x, D, dx, _, rfl, gx2, c.cls, c.na _ (by simp), by show 3 < 1000; decide, ?_⟩
        refine q _ u z Db (hb.trans (.trans (.same sm) (.upd (by simp)))) ⟨by rw [upd_same]; rfl, ?_, by rw [upd_ne (Ne.symm xz)]; exact sm _ _ gz, ?_⟩
        · refine ((gu.bl [x] (.trans (.same sm) (.upd (by simp))) (by simpa using Ne.symm xu) (fun l hl => by
            simp only [List.mem_singleton]
            intro e
            rw [e, hx] at hl
            cases hl.1)).wk fun _ _ => trivial).ext (fun _ => rfl) (by have := hG.nc; omega)
        · have nxb : Db ≠ x := fun e => by rw [e, gx] at hDb; cases hDb
          rw [upd_ne nxb, hd, fm_if, szs_len]
          rfl
end
end L2.My
end
section
set_option Elab.async false
set_option linter.all false
set_option maxRecDepth 100000
set_option maxHeartbeats 4000000
namespace L2.My
open PySem PySem.Spec PyProof.Rows
/-! ### the rounds of a derivation -/
abbrev Wi : Type := Fc × Nat
def ks (l : List Wi) : List Fc := l.map (·.1)
def hd (cs : List Cz) (a : Nat) : Fc := ((cs[a]?).map (·.2)).getD []
def nzc (L : Nat → Nat) (n : Nat) : Nat := ((List.range n).filter fun c => decide (L c ≠ 0)).length
def lset (L : Nat → Nat) (a v : Nat) : Nat → Nat := fun c => if c = a then v else L c
theorem bo_at {cs : List Cz} {a : Nat} (h : a < cs.length) : cs[a]? = some (bo cs a, hd cs a) := by
  unfold bo hd
  rw [List.getElem?_eq_getElem h]
  rfl
/-- what holds within so many rounds -/
def Lev (cs : List Cz) (G : Fc → Prop) : Nat → Fc → Prop
  | 0, f => G f
  | t + 1, f => Lev cs G t f ∨ ∃ k, k < cs.length ∧ hd cs k = f ∧ ∀ x ∈ bo cs k, Lev cs G t x
theorem Lev.up {cs : List Cz} {G : Fc → Prop} {f : Fc} {s t : Nat} (h : Lev cs G s f) (l : s ≤ t) : Lev cs G t f := by
  induction t with
  | zero => obtain rfl : s = 0 := by omega
            exact h
  | succ t ih =>
    by_cases e : s = t + 1
    · rw [← e]; exact h
    · exact .inl (ih (by omega))
theorem Lev.der {cs : List Cz} {G : Fc → Prop} : ∀ {t : Nat} {f : Fc}, Lev cs G t f → Der cs G none f
  | 0, f, h => .gr h
  | t + 1, f, h => by
    rcases h with h | ⟨k, hk, rfl, hb⟩
    · exact Lev.der h
    · exact .cl (bo_at hk) (by simp) fun x hx => Lev.der (hb x hx)
theorem lev_all {cs : List Cz} {G : Fc → Prop} : ∀ (b : List Fc), (∀ x ∈ b, ∃ t, Lev cs G t x) → ∃ t, ∀ x ∈ b, Lev cs G t x
  | [], _ => ⟨0, fun x hx => nomatch hx⟩
  | y :: b, h => by
    obtain ⟨t1, h1⟩ := h y List.mem_cons_self
    obtain ⟨t2, h2⟩ := lev_all b fun x hx => h x (List.mem_cons_of_mem _ hx)
    refine ⟨t1 + t2, fun x hx => ?_⟩
    rcases List.mem_cons.mp hx with rfl | hx
    · exact h1.up (by omega)
    · exact (h2 x hx).up (by omega)
theorem der_lev {cs : List Cz} {G : Fc → Prop} {f : Fc} : Der cs G none f ↔ ∃ t, Lev cs G t f := by
  refine ⟨fun d => ?_, fun ⟨t, h⟩ => h.der⟩
  refine d.closed (S := fun f => ∃ t, Lev cs G t f) (fun f h => ⟨0, h⟩) fun i b h e _ hb => ?_
  obtain ⟨t, ht⟩ := lev_all b hb
  have li := (List.getElem?_eq_some_iff.mp e).1
  have e2 := bo_at li
  rw [e] at e2
  cases e2
  exact ⟨t + 1, .inr ⟨i, li, rfl, ht⟩⟩
/-- the round of a fact -/
def Rd1 (cs : List Cz) (G : Fc → Prop) (f : Fc) (t : Nat) : Prop := Lev cs G t f ∧ ∀ s, s < t → ¬ Lev cs G s f
theorem Rd1.uniq {cs : List Cz} {G : Fc → Prop} {f : Fc} {s t : Nat} (h : Rd1 cs G f s) (k : Rd1 cs G f t) : s = t := by
  rcases Nat.lt_trichotomy s t with z | z | z
  · exact absurd h.1 (k.2 s z)
  · exact z
  · exact absurd k.1 (h.2 t z)
theorem ks_snoc {F : List Wi} {p : Wi} : ks (F ++ [p]) = ks F ++ [p.1] := by unfold ks; simp
theorem us_mem {cs : List Cz} {n a : Nat} {f : Fc} : a ∈ us cs n f ↔ a < n ∧ f ∈ bo cs a := by
  unfold us
  rw [List.mem_filter, List.mem_range, decide_eq_true_eq]
theorem us_nodup {cs : List Cz} {n : Nat} {f : Fc} : (us cs n f).Nodup := List.Nodup.sublist List.filter_sublist List.nodup_range
theorem nzc_lset {L : Nat → Nat} {n a : Nat} (ha : a < n) (h : L a = 1) : nzc (lset L a 0) n + 1 = nzc L n := by
  unfold nzc
  have gen : ∀ l : List Nat, l.Nodup → a ∈ l → (l.filter fun c => decide (lset L a 0 c ≠ 0)).length + 1 = (l.filter fun c => decide (L c ≠ 0)).length := by
    intro l
    induction l with
    | nil => intro _ hm; cases hm
    | cons x l ih =>
      intro nd hm
      rw [List.nodup_cons] at nd
      by_cases e : x = a
      · subst e
        have e1 : (l.filter fun c => decide (lset L x 0 c ≠ 0)) = l.filter fun c => decide (L c ≠ 0) := List.filter_congr fun c hc => by
          unfold lset
          rw [if_neg (fun z : c = x => nd.1 (z ▸ hc))]
        rw [List.filter_cons_of_neg (by unfold lset; simp), List.filter_cons_of_pos (by simp [h]), e1, List.length_cons]
      · have hm' : a ∈ l := by
          rcases List.mem_cons.mp hm with z | z
          · exact absurd z.symm e
          · exact z
        have i1 := ih nd.2 hm'
        have e2 : lset L a 0 x = L x := if_neg e
        by_cases h0 : L x = 0
        · rw [List.filter_cons_of_neg (by rw [e2]; simp [h0]), List.filter_cons_of_neg (by simp [h0])]; exact i1
        · rw [List.filter_cons_of_pos (by rw [e2]; simp [h0]), List.filter_cons_of_pos (by simp [h0]), List.length_cons, List.length_cons]; omega
  exact gen _ List.nodup_range (List.mem_range.mpr ha)
theorem nzc_le {L L' : Nat → Nat} {n : Nat} (h : ∀ c, L' c ≠ 0 → L c ≠ 0) : nzc L' n ≤ nzc L n := filter_le fun c _ x => by
  rw [decide_eq_true_eq] at x ⊢
  exact h c x
/-- c: the turn of what was taken last; ex: what of the uses is still to come -/
structure Iv (cs : List Cz) (G : Fc → Prop) (u0 T0 c : Nat) (F R B : List Wi) (L : Nat → Nat) (ex : List Nat) : Prop where
  nd : (ks F).Nodup
  fT : ∀ p ∈ F, Rd1 cs G p.1 p.2
  fc : ∀ p ∈ F, p.2 ≤ c
  qs : ∀ p ∈ R ++ B, c ≤ p.2 ∧ p.2 ≤ c + 1
  qo : (R ++ B).Pairwise fun p q => p.2 ≤ q.2
  ql : ∀ p ∈ R ++ B, Lev cs G p.2 p.1
  gg : ∀ f, G f → f ∈ ks F ∨ (f, 0) ∈ R ++ B
  cc : ∀ k, k < cs.length → lackB (bo cs k) (ks F) = 0 → hd cs k ∈ ks F ∨ k ∈ ex ∨ ∃ p ∈ R ++ B, p.1 = hd cs k ∧ ∀ s, (∀ x ∈ bo cs k, ∀ q ∈ F, q.1 = x → q.2 ≤ s) → p.2 ≤ s + 1
  xc : ∀ k ∈ ex, ∃ q ∈ F, q.1 ∈ bo cs k ∧ q.2 = c
  lk : ∀ c, c < cs.length → L c = lackB (bo cs c) (ks F) + if c ∈ ex then 1 else 0
  en : ex.Nodup
  el : ∀ c ∈ ex, c < cs.length
  nz : nzc L cs.length + B.length ≤ u0
  tt : F.length + R.length + B.length + nzc L cs.length ≤ T0
theorem ks_mem {F : List Wi} {f : Fc} (h : f ∈ ks F) : ∃ t, (f, t) ∈ F := by
  obtain ⟨p, hp, rfl⟩ := List.mem_map.mp h
  exact ⟨p.2, hp⟩
theorem mem_ks {F : List Wi} {p : Wi} (h : p ∈ F) : p.1 ∈ ks F := List.mem_map.mpr ⟨p, h, rfl⟩
section
variable {cs : List Cz} {G : Fc → Prop} {u0 T0 c : Nat} {F R B : List Wi} {L : Nat → Nat} {p : Wi}
theorem Iv.skip (h : Iv cs G u0 T0 c F (p :: R) B L []) (hp : p.1 ∈ ks F) : Iv cs G u0 T0 c F R B L [] :=
  { h with
    qs := fun q hq => h.qs q (List.mem_cons_of_mem _ hq)
    qo := (List.pairwise_cons.mp h.qo).2
    ql := fun q hq => h.ql q (List.mem_cons_of_mem _ hq)
    gg := fun f hf => by
      rcases h.gg f hf with x | x
      · exact .inl x
      · rcases List.mem_cons.mp x with e | x
        · exact .inl (by rw [← e] at hp; exact hp)
        · exact .inr x
    cc := fun k hk h0 => by
      rcases h.cc k hk h0 with x | x | ⟨q, hq, e1, e2⟩
      · exact .inl x
      · exact .inr (.inl x)
      · rcases List.mem_cons.mp hq with e | x
        · exact .inl (by rw [← e1, e]; exact hp)
        · exact .inr (.inr ⟨q, x, e1, e2⟩)
    tt := by have := h.tt; rw [List.length_cons] at this; omega }
theorem Iv.low (h : Iv cs G u0 T0 c F (p :: R) B L []) : ∀ s, s < p.2 → ∀ f, Lev cs G s f → f ∈ ks F := by
  have first : ∀ q ∈ p :: R ++ B, p.2 ≤ q.2 := fun q hq => by
    rcases List.mem_cons.mp hq with e | x
    · rw [e]; exact Nat.le_refl _
    · exact (List.pairwise_cons.mp h.qo).1 q x
  intro s
  induction s with
  | zero =>
    intro hs f hf
    rcases h.gg f hf with x | x
    · exact x
    · have := first _ x
      exact absurd hs (by show ¬ 0 < p.2; have : p.2 ≤ 0 := this; omega)
  | succ s ih =>
    intro hs f hf
    rcases hf with hf | ⟨k, hk, rfl, hb⟩
    · exact ih (by omega) f hf
    · have inF : ∀ x ∈ bo cs k, x ∈ ks F := fun x hx => ih (by omega) x (hb x hx)
      rcases h.cc k hk (lackB_zero.mpr inF) with x | x | ⟨q, hq, _, e2⟩
      · exact x
      · exact nomatch x
      · have a := e2 s fun x hx q' hq' e => Nat.le_of_not_lt fun z => (h.fT q' hq').2 s z (by rw [e]; exact hb x hx)
        have b := first q hq
        omega
theorem Iv.take (h : Iv cs G u0 T0 c F (p :: R) B L []) (hp : p.1 ∉ ks F) : Iv cs G u0 T0 p.2 (F ++ [p]) R B L (us cs cs.length p.1) where
  nd := by
    rw [ks_snoc]
    exact List.nodup_append.mpr ⟨h.nd, by simp, fun a ha b hb => by rw [List.mem_singleton.mp hb]; exact fun e => hp (e ▸ ha)⟩
  fT := fun q hq => by
    rcases List.mem_append.mp hq with x | x
    · exact h.fT q x
    · rw [List.mem_singleton.mp x]
      exact ⟨h.ql p (by simp), fun s hs hl => hp (h.low s hs _ hl)⟩
  fc := fun q hq => by
    have := (h.qs p (by simp)).1
    rcases List.mem_append.mp hq with x | x
    · have := h.fc q x
      omega
    · rw [List.mem_singleton.mp x]; exact Nat.le_refl _
  qs := fun q hq => by
    have h1 := (h.qs p (by simp)).1
    have h2 := (h.qs q (List.mem_cons_of_mem _ hq)).2
    have h3 := (List.pairwise_cons.mp h.qo).1 q hq
    omega
  qo := (List.pairwise_cons.mp h.qo).2
  ql := fun q hq => h.ql q (List.mem_cons_of_mem _ hq)
  gg := fun f hf => by
    rw [ks_snoc]
    rcases h.gg f hf with x | x
    · exact .inl (List.mem_append_left _ x)
    · rcases List.mem_cons.mp x with e | x
      · exact .inl (by rw [← e]; simp)
      · exact .inr x
  cc := fun k hk h0 => by
    by_cases hm : p.1 ∈ bo cs k
    · exact .inr (.inl (us_mem.mpr ⟨hk, hm⟩))
    · have e := lackB_snoc (b := bo cs k) hp
      rw [if_neg hm, ← ks_snoc, h0] at e
      rw [ks_snoc]
      rcases h.cc k hk e.symm with x | x | ⟨q, hq, e1, e2⟩
      · exact .inl (List.mem_append_left _ x)
      · exact nomatch x
      · rcases List.mem_cons.mp hq with z | x
        · exact .inl (by rw [← e1, z]; simp)
        · exact .inr (.inr ⟨q, x, e1, fun s hs => e2 s fun y hy q' hq' => hs y hy q' (List.mem_append_left _ hq')⟩)
  xc := fun k hk => ⟨p, by simp, (us_mem.mp hk).2, rfl⟩
  lk := fun c hc => by
    have e := lackB_snoc (b := bo cs c) hp
    rw [h.lk c hc, ks_snoc, if_neg (by simp), Nat.add_zero, ← e]
    by_cases hm : p.1 ∈ bo cs c
    · rw [if_pos hm, if_pos (us_mem.mpr ⟨hc, hm⟩)]
    · rw [if_neg hm, if_neg (fun z => hm (us_mem.mp z).2)]
  en := us_nodup
  el := fun c hc => (us_mem.mp hc).1
  nz := h.nz
  tt := by have := h.tt; rw [List.length_cons] at this; rw [List.length_append, List.length_singleton]; omega
variable {a : Nat} {ex : List Nat}
/-- one use more: still lacking -/
theorem Iv.less (h : Iv cs G u0 T0 c F R B L (a :: ex)) (h1 : L a ≠ 1) : Iv cs G u0 T0 c F R B (lset L a (L a - 1)) ex ∧ 1 ≤ L a := by
  have hn := List.nodup_cons.mp h.en
  have ha := h.el a (by simp)
  have la := h.lk a ha
  rw [if_pos (by simp)] at la
  have hnz : nzc (lset L a (L a - 1)) cs.length ≤ nzc L cs.length := nzc_le fun c hc => by
    unfold lset at hc
    split at hc
    · rename_i e; rw [e]; omega
    · exact hc
  refine ⟨{ nd := h.nd, fT := h.fT, fc := h.fc, qs := h.qs, qo := h.qo, ql := h.ql, gg := h.gg, xc := fun k hk => h.xc k (List.mem_cons_of_mem _ hk), cc := fun c hc h0 => ?_, lk := fun c hc => ?_, en := hn.2, el := fun c hc => h.el c (List.mem_cons_of_mem _ hc), nz := by have := h.nz; omega, tt := by have := h.tt; omega }, by omega⟩
  · rcases h.cc c hc h0 with x | x | x
    · exact .inl x
    · rcases List.mem_cons.mp x with y | y
      · rw [y] at h0; omega
      · exact .inr (.inl y)
    · exact .inr (.inr x)
  · unfold lset
    by_cases e : c = a
    · rw [if_pos e, e, if_neg hn.1]; omega
    · rw [if_neg e, h.lk c hc]
      by_cases hm : c ∈ ex
      · rw [if_pos hm, if_pos (List.mem_cons_of_mem _ hm)]
      · rw [if_neg hm, if_neg (fun z => (List.mem_cons.mp z).elim e hm)]
/-- the last use: the clause's head is behind -/
theorem Iv.fire (h : Iv cs G u0 T0 c F R B L (a :: ex)) (h1 : L a = 1) : Iv cs G u0 T0 c F R (B ++ [(hd cs a, c + 1)]) (lset L a 0) ex := by
  have hn := List.nodup_cons.mp h.en
  have ha := h.el a (by simp)
  have la := h.lk a ha
  rw [if_pos (by simp)] at la
  have l0 : lackB (bo cs a) (ks F) = 0 := by omega
  have hnz := nzc_lset (L := L) ha h1
  have cut : ∀ {q : Wi}, q ∈ R ++ (B ++ [(hd cs a, c + 1)]) → q ∈ R ++ B ∨ q = (hd cs a, c + 1) := fun hq => by
    rw [← List.append_assoc] at hq
    exact (List.mem_append.mp hq).imp id List.mem_singleton.mp
  have put : ∀ {q : Wi}, q ∈ R ++ B → q ∈ R ++ (B ++ [(hd cs a, c + 1)]) := fun hq => by
    rw [← List.append_assoc]
    exact List.mem_append_left _ hq
  have new : (hd cs a, c + 1) ∈ R ++ (B ++ [(hd cs a, c + 1)]) := by simp
  refine { nd := h.nd, fT := h.fT, fc := h.fc, qs := fun q hq => ?_, qo := ?_, ql := fun q hq => ?_, gg := fun f hf => (h.gg f hf).imp id put, xc := fun k hk => h.xc k (List.mem_cons_of_mem _ hk), cc := fun k hk h0 => ?_, lk := fun c hc => ?_, en := hn.2, el := fun c hc => h.el c (List.mem_cons_of_mem _ hc), nz := by have := h.nz; rw [List.length_append, List.length_singleton]; omega, tt := by have := h.tt; rw [List.length_append, List.length_singleton]; omega }
  · rcases cut hq with x | x
    · exact h.qs q x
    · rw [x]; exact ⟨Nat.le_succ _, Nat.le_refl _⟩
  · rw [← List.append_assoc]
    refine List.pairwise_append.mpr ⟨h.qo, List.pairwise_singleton _ _, fun x hx y hy => ?_⟩
    rw [List.mem_singleton.mp hy]
    exact (h.qs x hx).2
  · rcases cut hq with x | x
    · exact h.ql q x
    · rw [x]
      refine .inr ⟨a, ha, rfl, fun y hy => ?_⟩
      obtain ⟨t, ht⟩ := ks_mem (lackB_zero.mp l0 y hy)
      exact (h.fT _ ht).1.up (h.fc _ ht)
  · rcases h.cc k hk h0 with x | x | ⟨q, hq, e1, e2⟩
    · exact .inl x
    · rcases List.mem_cons.mp x with y | y
      · subst y
        refine .inr (.inr ⟨_, new, rfl, fun s hs => ?_⟩)
        obtain ⟨q, hq, q1, q2⟩ := h.xc k (by simp)
        have := hs _ q1 q hq rfl
        show c + 1 ≤ s + 1
        omega
      · exact .inr (.inl y)
    · exact .inr (.inr ⟨q, put hq, e1, e2⟩)
  · unfold lset
    by_cases e : c = a
    · rw [if_pos e, e, if_neg hn.1]; omega
    · rw [if_neg e, h.lk c hc]
      by_cases hm : c ∈ ex
      · rw [if_pos hm, if_pos (List.mem_cons_of_mem _ hm)]
      · rw [if_neg hm, if_neg (fun z => (List.mem_cons.mp z).elim e hm)]
/-- the turn's end: what is behind waits -/
theorem Iv.turn (h : Iv cs G u0 T0 c F [] B L []) : Iv cs G (nzc L cs.length) T0 c F B [] L [] where
  nd := h.nd
  fT := h.fT
  fc := h.fc
  qs := by rw [List.append_nil]; exact h.qs
  qo := by rw [List.append_nil]; exact h.qo
  ql := by rw [List.append_nil]; exact h.ql
  gg := by rw [List.append_nil]; exact h.gg
  cc := by rw [List.append_nil]; exact h.cc
  xc := h.xc
  lk := h.lk
  en := h.en
  el := h.el
  nz := by simp
  tt := by have := h.tt; simp only [List.length_nil] at *; omega
/-- the end: what is found is what is derived -/
theorem Iv.done (h : Iv cs G u0 T0 c F [] [] L []) (f : Fc) : f ∈ ks F ↔ Der cs G none f := by
  refine ⟨fun hf => ?_, fun d => ?_⟩
  · obtain ⟨t, ht⟩ := ks_mem hf
    exact (h.fT _ ht).1.der
  · refine d.closed (S := fun f => f ∈ ks F) (fun g hg => ?_) fun i b hh hi _ hb => ?_
    · rcases h.gg g hg with x | x
      · exact x
      · exact nomatch x
    · have li := (List.getElem?_eq_some_iff.mp hi).1
      have e := bo_at li
      rw [hi] at e
      cases e
      rcases h.cc i li (lackB_zero.mpr hb) with x | x | ⟨q, hq, _⟩
      · exact x
      · exact nomatch x
      · exact nomatch hq
end
/-- the start -/
theorem Iv.start {cs : List Cz} {G : Fc → Prop} {W0 W1 : List Wi} (h0 : ∀ p, p ∈ W0 ↔ p.2 = 0 ∧ G p.1) (h1 : ∀ p, p ∈ W1 ↔ p.2 = 1 ∧ ∃ a ∈ bares cs, p.1 = hd cs a) :
    Iv cs G (nzc (fun c => (dk (bo cs c)).length) cs.length) ((W0 ++ W1).length + cs.length) 0 [] (W0 ++ W1) [] (fun c => (dk (bo cs c)).length) [] := by
  have bare : ∀ a ∈ bares cs, a < cs.length ∧ ∀ x, x ∉ bo cs a := fun a ha => by
    unfold bares at ha
    rw [List.mem_filter, List.mem_range, decide_eq_true_eq] at ha
    refine ⟨ha.1, fun x hx => ?_⟩
    have e : dk (bo cs a) = [] := List.length_eq_zero_iff.mp ha.2
    have := mem_dk.mpr hx
    rw [e] at this
    exact nomatch this
  have cut : ∀ p ∈ W0 ++ W1 ++ [], (p.2 = 0 ∧ G p.1) ∨ (p.2 = 1 ∧ ∃ a ∈ bares cs, p.1 = hd cs a) := fun p hp => by
    rw [List.append_nil] at hp
    exact (List.mem_append.mp hp).imp (h0 p).mp (h1 p).mp
  refine { nd := List.nodup_nil, fT := fun _ h => (nomatch h), fc := fun _ h => (nomatch h), qs := fun p hp => ?_, qo := ?_, ql := fun p hp => ?_, gg := fun f hf => .inr ?_, cc := fun k hk hl => .inr (.inr ?_), xc := fun _ h => (nomatch h), lk := fun c hc => ?_, en := List.nodup_nil, el := fun _ h => (nomatch h), nz := by simp, tt := ?_ }
  · rcases cut p hp with x | x <;> rw [x.1] <;> exact ⟨by decide, by decide⟩
  · rw [List.append_nil]
    refine List.pairwise_append.mpr ⟨List.pairwise_iff_forall_sublist.mpr fun {x y} z => ?_, List.pairwise_iff_forall_sublist.mpr fun {x y} z => ?_, fun x hx y hy => ?_⟩
    · rw [((h0 x).mp (z.subset (by simp))).1]; exact Nat.zero_le _
    · rw [((h1 x).mp (z.subset (by simp))).1, ((h1 y).mp (z.subset (by simp))).1]; exact Nat.le_refl _
    · rw [((h0 x).mp hx).1]; exact Nat.zero_le _
  · rcases cut p hp with ⟨e, x⟩ | ⟨e, b, hb, e2⟩ <;> rw [e]
    · exact x
    · exact .inr ⟨b, (bare b hb).1, e2.symm, fun x hx => absurd hx ((bare b hb).2 x)⟩
  · rw [List.append_nil]
    exact List.mem_append_left _ ((h0 _).mpr ⟨rfl, hf⟩)
  · have e : lackB (bo cs k) (ks []) = (dk (bo cs k)).length := lackB_nil _
    rw [e] at hl
    refine ⟨(hd cs k, 1), ?_, rfl, fun s _ => by show 1 ≤ s + 1; omega⟩
    rw [List.append_nil]
    refine List.mem_append_right _ ((h1 _).mpr ⟨rfl, k, ?_, rfl⟩)
    unfold bares
    rw [List.mem_filter, List.mem_range, decide_eq_true_eq]
    exact ⟨hk, hl⟩
  · have e : lackB (bo cs c) (ks []) = (dk (bo cs c)).length := lackB_nil _
    rw [e, if_neg (by simp)]; rfl
  · have : nzc (fun c => (dk (bo cs c)).length) cs.length ≤ cs.length := by
      unfold nzc
      exact Nat.le_trans (List.length_filter_le _ _) (Nat.le_of_eq List.length_range)
    simp only [List.length_nil]; omega
end L2.My
end
section
set_option Elab.async false
set_option linter.all false
set_option maxRecDepth 100000
set_option maxHeartbeats 4000000
namespace L2.My
open PySem PySem.Spec PyProof.Rows
/-! ### a while by a number that is only said to be there -/
theorem least {P : Nat → Prop} (h : ∃ m, P m) : ∃ m, P m ∧ ∀ k, P k → m ≤ k := by
  obtain ⟨m, hm⟩ := h
  induction m using Nat.strongRecOn with
  | ind m ih =>
    by_cases e : ∃ k, k < m ∧ P k
    · obtain ⟨k, hk, pk⟩ := e
      exact ih k hk pk
    · exact ⟨m, hm, fun k pk => Nat.le_of_not_lt fun z => e ⟨k, z, pk⟩⟩
open Classical in
noncomputable def lst0 (P : Nat → Prop) : Nat := if h : ∃ m, P m then (least h).choose else 0
theorem lst0_ok {P : Nat → Prop} (h : ∃ m, P m) : P (lst0 P) ∧ ∀ k, P k → lst0 P ≤ k := by
  unfold lst0
  rw [dif_pos h]
  exact (least h).choose_spec
theorem while_m {c : TT} {tb : TS} {D : Ends} {σ : St} {H : Hp} (P : Nat → St → Hp → Prop) (h0 : ∃ m, P m σ H)
    (hs : ∀ m σ H, P m σ H → c σ H fun b H1 => if b = true then tb { nx := fun σ' H' => ∃ m', m' < m ∧ P m' σ' H', rt := D.rt, bk := D.nx, ct := fun σ' H' => ∃ m', m' < m ∧ P m' σ' H' } σ H1 else D.nx σ H1)
    (hm : ∀ (σ : St) (H : Hp) (Q Q' : Bool → Hp → Prop), (∀ b H1, Q b H1 → Q' b H1) → c σ H Q → c σ H Q') : tWhile c tb D σ H := by
  refine while_by (fun σ H => ∃ m, P m σ H) (fun σ H => lst0 fun m => P m σ H) h0 (fun σ H h => ?_) hm
  have l := lst0_ok h
  have e : (fun (σ' : St) (H' : Hp) => (∃ m, P m σ' H') ∧ lst0 (fun m => P m σ' H') < lst0 (fun m => P m σ H)) = fun σ' H' => ∃ m', m' < lst0 (fun m => P m σ H) ∧ P m' σ' H' := by
    funext σ' H'
    refine propext ⟨fun ⟨a, b⟩ => ⟨_, b, (lst0_ok a).1⟩, fun ⟨m', a, b⟩ => ⟨⟨m', b⟩, Nat.lt_of_le_of_lt ((lst0_ok ⟨m', b⟩).2 m' b) a⟩⟩
  rw [e]
  exact hs _ σ H l.1
/-! ### two for in a comprehension -/
def InnOut (J1 : It) (g1 : TG) (tt1 : TT) (te : TE) (vs1 : List Nat) (σ2 : St) (D : Addr) (Nx : Hp → Prop) (H4 : Hp) : Prop := ∃ W1 : Nat → Nat → Hp → Prop, (∃ m, W1 0 m H4) ∧ ∀ j k H, W1 j k H →
  (J1.stop j H ∧ Nx H) ∨ (J1.go j H ∧ ∃ Nx1 : Hp → Prop, (∀ H', Nx1 H' → ∃ k', k' < k ∧ W1 (j + 1) k' H') ∧ ∀ x H', J1.yld j H x H' → g1 x (wipe σ2 vs1) H' fun σ3 H5 => wipe σ3 vs1 = wipe σ2 vs1 ∧ tt1 σ3 H5 fun b H6 =>
    if b = true then te σ3 H6 fun y H7 => ∃ acc, H7 D = some (.lst acc) ∧ acc.length < sizeLine ∧ Nx1 (upd H7 D (.lst (acc ++ [y]))) else Nx1 H6)
section
variable {J J1 : It} {n : Nat} {G : Hp → Prop} {Y : Nat → Hp → V → Hp → Prop}
theorem inn_it (w : Walk J1 n G Y) {g1 : TG} {tt1 : TT} {te : TE} {vs1 : List Nat} {σ2 : St} {D : Addr} {Nx : Hp → Prop} {H4 : Hp} (Pw : Nat → Hp → Prop) (h0 : Pw 0 H4) (hG : ∀ i H, i ≤ n → Pw i H → G H)
    (hs : ∀ j x H H', j < n → Pw j H → Y j H x H' → g1 x (wipe σ2 vs1) H' fun σ3 H5 => wipe σ3 vs1 = wipe σ2 vs1 ∧ tt1 σ3 H5 fun b H6 => if b = true then te σ3 H6 fun y H7 => ∃ acc, H7 D = some (.lst acc) ∧ acc.length < sizeLine ∧ Pw (j + 1) (upd H7 D (.lst (acc ++ [y]))) else Pw (j + 1) H6)
    (hd : ∀ H, Pw n H → Nx H) : InnOut J1 g1 tt1 te vs1 σ2 D Nx H4 := by
  refine ⟨fun i m H => i + m = n ∧ Pw i H, ⟨n, by omega, h0⟩, fun i m H ⟨e, h⟩ => ?_⟩
  have gi := hG i H (by omega) h
  by_cases hi : i < n
  · exact .inr ⟨w.goes i H hi gi, fun H' => Pw (i + 1) H', fun H' h' => ⟨m - 1, by omega, by omega, h'⟩, fun x H' y => hs i x H H' hi h (w.yields i H x H' hi gi y)⟩
  · obtain rfl : i = n := by omega
    exact .inl ⟨w.stops H gi, hd H h⟩
theorem lc2_it (w : Walk J n G Y) {g : TG} {tt : TT} {wi1 : TI} {g1 : TG} {tt1 : TT} {te : TE} {vs vs1 : List Nat} {σ : St} {H1 : Hp} {D : Addr} {Qd : Hp → Prop} (Pv : Nat → Hp → Prop) (h0 : Pv 0 (upd H1 D (.lst []))) (hG : ∀ i H, i ≤ n → Pv i H → G H)
    (hs : ∀ i x H H', i < n → Pv i H → Y i H x H' → g x (wipe σ vs) H' fun σ2 H2 => wipe σ2 vs = wipe σ vs ∧ tt σ2 H2 fun b H3 => if b = true then wi1 σ2 H3 fun J1 H4 => InnOut J1 g1 tt1 te vs1 σ2 D (Pv (i + 1)) H4 else Pv (i + 1) H3)
    (hd : ∀ H, Pv n H → Qd H) : ∃ W : Nat → Nat → Hp → Prop, (∃ m, W 0 m (upd H1 D (.lst []))) ∧ ∀ i m H, W i m H →
  (J.stop i H ∧ Qd H) ∨ (J.go i H ∧ ∃ Nx : Hp → Prop, (∀ H', Nx H' → ∃ m', m' < m ∧ W (i + 1) m' H') ∧ ∀ x H', J.yld i H x H' → g x (wipe σ vs) H' fun σ2 H2 => wipe σ2 vs = wipe σ vs ∧ tt σ2 H2 fun b H3 =>
    if b = true then wi1 σ2 H3 fun J1 H4 => ∃ W1 : Nat → Nat → Hp → Prop, (∃ m, W1 0 m H4) ∧ ∀ j k H, W1 j k H →
      (J1.stop j H ∧ Nx H) ∨ (J1.go j H ∧ ∃ Nx1 : Hp → Prop, (∀ H', Nx1 H' → ∃ k', k' < k ∧ W1 (j + 1) k' H') ∧ ∀ x H', J1.yld j H x H' → g1 x (wipe σ2 vs1) H' fun σ3 H5 => wipe σ3 vs1 = wipe σ2 vs1 ∧ tt1 σ3 H5 fun b H6 =>
        if b = true then te σ3 H6 fun y H7 => ∃ acc, H7 D = some (.lst acc) ∧ acc.length < sizeLine ∧ Nx1 (upd H7 D (.lst (acc ++ [y]))) else Nx1 H6)
    else Nx H3) := by
  refine ⟨fun i m H => i + m = n ∧ Pv i H, ⟨n, by omega, h0⟩, fun i m H ⟨e, h⟩ => ?_⟩
  have gi := hG i H (by omega) h
  by_cases hi : i < n
  · exact .inr ⟨w.goes i H hi gi, fun H' => Pv (i + 1) H', fun H' h' => ⟨m - 1, by omega, by omega, h'⟩, fun x H' y => hs i x H H' hi h (w.yields i H x H' hi gi y)⟩
  · obtain rfl : i = n := by omega
    exact .inl ⟨w.stops H gi, hd H h⟩
end
/-! ### what waits, what is found, on the heap -/
def WA (H : Hp) (v : V) (q : Wi) : Prop := ∃ (t p o : Addr), v = .ref t ∧ H t = some (.tup [.ref p, .ref o, .int (q.2 : Nat)]) ∧ FactAt H p q.1
def FV (H : Hp) (v : V) (n : Nat) : Prop := ∃ (o p : Addr), v = .ref o ∧ H o = some (.tup [.ref p, .int (n : Nat)])
theorem WA.tk {H H' : Hp} {v : V} {q : Wi} (h : WA H v q) (t : TK H H') : WA H' v q := by
  obtain ⟨x, p, o, h1, h2, h3⟩ := h
  exact ⟨x, p, o, h1, t _ _ h2, h3.tk t⟩
theorem FV.tk {H H' : Hp} {v : V} {n : Nat} (h : FV H v n) (t : TK H H') : FV H' v n := by
  obtain ⟨o, p, h1, h2⟩ := h
  exact ⟨o, p, h1, t _ _ h2⟩
def WL (H : Hp) (a : Addr) (R : List Wi) : Prop := ∃ vs, H a = some (.lst vs) ∧ Paired (WA H) vs R
theorem WL.tk {H H' : Hp} {a : Addr} {R : List Wi} (h : WL H a R) (t : TK H H') (e : ∀ vs, H a = some (.lst vs) → H' a = some (.lst vs)) : WL H' a R := by
  obtain ⟨vs, h1, h2⟩ := h
  exact ⟨vs, e vs h1, Paired.mapP h2 fun _ _ z => z.tk t⟩
def FR (H : Hp) (kv : Fc × V) (q : Wi) : Prop := kv.1 = q.1 ∧ FV H kv.2 q.2
def FD (H : Hp) (a : Addr) (F : List Wi) : Prop := ∃ kvs : List (Fc × V), H a = some (.dT kvs) ∧ Paired (FR H) kvs F
theorem FD.tk {H H' : Hp} {a : Addr} {F : List Wi} (h : FD H a F) (t : TK H H') (e : ∀ kvs, H a = some (.dT kvs) → H' a = some (.dT kvs)) : FD H' a F := by
  obtain ⟨vs, h1, h2⟩ := h
  exact ⟨vs, e vs h1, Paired.mapP h2 fun _ _ z => ⟨z.1, z.2.tk t⟩⟩
theorem fr_keys {H : Hp} {kvs : List (Fc × V)} {F : List Wi} (h : Paired (FR H) kvs F) : kvs.map (·.1) = ks F := by
  induction h with
  | nil => rfl
  | cons r _ ih => exact congr (congrArg List.cons r.1) ih
/-- the lacking ones -/
def lacV (L : Nat → Nat) (n : Nat) : List V := (List.range n).map fun c => V.int (L c : Nat)
theorem lacV_len {L : Nat → Nat} {n : Nat} : (lacV L n).length = n := by unfold lacV; simp
theorem lacV_at {L : Nat → Nat} {n c : Nat} (h : c < n) : (lacV L n)[c]? = some (V.int (L c : Nat)) := by
  unfold lacV
  rw [List.getElem?_map, List.getElem?_range h]
  rfl
theorem lacV_set {L : Nat → Nat} {n a v : Nat} : (lacV L n).set a (V.int (v : Nat)) = lacV (lset L a v) n := by
  refine List.ext_getElem? fun i => ?_
  rw [List.getElem?_set, lacV_len]
  by_cases hi : i < n
  · rw [lacV_at hi, lacV_at hi]
    unfold lset
    by_cases e : a = i
    · subst e; rw [if_pos rfl, if_pos rfl, if_pos hi]
    · rw [if_neg e, if_neg (Ne.symm e)]
  · have e1 : (lacV L n)[i]? = none := List.getElem?_eq_none (by rw [lacV_len]; omega)
    have e2 : (lacV (lset L a v) n)[i]? = none := List.getElem?_eq_none (by rw [lacV_len]; omega)
    rw [e1, e2]
    split
    · rw [if_neg (by omega)]
    · rfl
end L2.My
end
section
set_option Elab.async false
set_option linter.all false
set_option maxRecDepth 100000
set_option maxHeartbeats 4000000
/-! What is found, with its origins, and as the one outcome of its account. -/
namespace L2.My
open PySem PySem.Spec PyProof.Rows
def Gof (gs : List (List Fc)) (ns : List Nat) (f : Fc) : Prop := ∃ n ∈ ns, ∃ g, gs[n]? = some g ∧ f ∈ g
/-- an origin: by a clause or of a ground, and its number -/
abbrev Og : Type := Bool × Nat
abbrev Wo : Type := Wi × Og
def wi (l : List Wo) : List Wi := l.map (·.1)
def kinS (b : Bool) : Str := if b = true then "clause" else "ground"
theorem wi_snoc {F : List Wo} {p : Wo} : wi (F ++ [p]) = wi F ++ [p.1] := by unfold wi; simp
theorem wi_app {F G : List Wo} : wi (F ++ G) = wi F ++ wi G := by unfold wi; simp
theorem wi_drop {F : List Wo} {n : Nat} : wi (F.drop n) = (wi F).drop n := by unfold wi; rw [List.map_drop]
/-- the run -/
inductive Run (cs : List Cz) : List Wo → List Nat → Nat → List Wo → List Wo → (Nat → Nat) → List Wo → Prop where
  | fin {F : List Wo} {c : Nat} {L : Nat → Nat} : Run cs F [] c [] [] L F
  | turn {F B r : List Wo} {c : Nat} {L : Nat → Nat} (n : B ≠ []) (h : Run cs F [] c B [] L r) : Run cs F [] c [] B L r
  | skip {F R B r : List Wo} {q : Wo} {c : Nat} {L : Nat → Nat} (n : q.1.1 ∈ ks (wi F)) (h : Run cs F [] c R B L r) : Run cs F [] c (q :: R) B L r
  | take {F R B r : List Wo} {q : Wo} {c : Nat} {L : Nat → Nat} (n : q.1.1 ∉ ks (wi F)) (h : Run cs (F ++ [q]) (us cs cs.length q.1.1) q.1.2 R B L r) : Run cs F [] c (q :: R) B L r
  | fire {F R B r : List Wo} {e : Nat} {es : List Nat} {c : Nat} {L : Nat → Nat} (n : L e = 1) (h : Run cs F es c R (B ++ [((hd cs e, c + 1), (true, e))]) (lset L e 0) r) : Run cs F (e :: es) c R B L r
  | less {F R B r : List Wo} {e : Nat} {es : List Nat} {c : Nat} {L : Nat → Nat} (n : L e ≠ 1) (h : Run cs F es c R B (lset L e (L e - 1)) r) : Run cs F (e :: es) c R B L r
theorem Run.uniq {cs : List Cz} {F R B r r' : List Wo} {es : List Nat} {c : Nat} {L : Nat → Nat} (h : Run cs F es c R B L r) (k : Run cs F es c R B L r') : r = r' := by
  induction h with
  | fin =>
    cases k with
    | fin => rfl
    | turn n _ => exact absurd rfl n
  | turn n _ ih =>
    cases k with
    | fin => exact absurd rfl n
    | turn _ h2 => exact ih h2
  | skip n _ ih =>
    cases k with
    | skip _ h2 => exact ih h2
    | take n2 _ => exact absurd n n2
  | take n _ ih =>
    cases k with
    | skip n2 _ => exact absurd n2 n
    | take _ h2 => exact ih h2
  | fire n _ ih =>
    cases k with
    | fire _ h2 => exact ih h2
    | less n2 _ => exact absurd n n2
  | less n _ ih =>
    cases k with
    | fire n2 _ => exact absurd n2 n
    | less _ h2 => exact ih h2
/-- an origin that tells right, when the facts K are known -/
def OgOk (cs : List Cz) (gs : List (List Fc)) (ns : List Nat) (K : List Fc) (p : Wo) : Prop :=
  (p.2.1 = false ∧ p.2.2 ∈ ns ∧ ∃ g, gs[p.2.2]? = some g ∧ p.1.1 ∈ g) ∨ (p.2.1 = true ∧ p.2.2 < cs.length ∧ hd cs p.2.2 = p.1.1 ∧ ∀ f ∈ bo cs p.2.2, f ∈ K)
theorem OgOk.mono {cs : List Cz} {gs : List (List Fc)} {ns : List Nat} {K K' : List Fc} {p : Wo} (h : OgOk cs gs ns K p) (m : ∀ f ∈ K, f ∈ K') : OgOk cs gs ns K' p := by
  rcases h with h | ⟨h1, h2, h3, h4⟩
  · exact .inl h
  · exact .inr ⟨h1, h2, h3, fun f hf => m f (h4 f hf)⟩
/-- all that is found has a right origin ahead of it -/
def FoOk (cs : List Cz) (gs : List (List Fc)) (ns : List Nat) (F : List Wo) : Prop := ∀ i p, F[i]? = some p → OgOk cs gs ns (ks (wi (F.take i))) p
structure IvX (cs : List Cz) (gs : List (List Fc)) (ns : List Nat) (Z : List Wo → Prop) (u0 T0 c : Nat) (F R B : List Wo) (L : Nat → Nat) (ex : List Nat) : Prop where
  iv : Iv cs (Gof gs ns) u0 T0 c (wi F) (wi R) (wi B) L ex
  og : ∀ p ∈ R ++ B, OgOk cs gs ns (ks (wi F)) p
  fo : FoOk cs gs ns F
  hi : ∀ r, Run cs F ex c R B L r → Z r
section
variable {cs : List Cz} {gs : List (List Fc)} {ns : List Nat} {Z : List Wo → Prop} {u0 T0 c : Nat} {F R B : List Wo} {L : Nat → Nat} {ex : List Nat} {p : Wo} {a : Nat}
theorem IvX.skip (h : IvX cs gs ns Z u0 T0 c F (p :: R) B L []) (hp : p.1.1 ∈ ks (wi F)) : IvX cs gs ns Z u0 T0 c F R B L [] :=
  ⟨Iv.skip (R := wi R) (p := p.1) h.iv hp, fun q hq => h.og q (List.mem_cons_of_mem _ hq), h.fo, fun r hr => h.hi r (.skip hp hr)⟩
theorem IvX.take (h : IvX cs gs ns Z u0 T0 c F (p :: R) B L []) (hp : p.1.1 ∉ ks (wi F)) : IvX cs gs ns Z u0 T0 p.1.2 (F ++ [p]) R B L (us cs cs.length p.1.1) := by
  have mo : ∀ f ∈ ks (wi F), f ∈ ks (wi (F ++ [p])) := fun f hf => by
    rw [wi_snoc, ks_snoc]
    exact List.mem_append_left _ hf
  refine ⟨?_, fun q hq => (h.og q (List.mem_cons_of_mem _ hq)).mono mo, fun i q hq => ?_, fun r hr => h.hi r (.take hp hr)⟩
  · rw [wi_snoc]
    exact Iv.take (R := wi R) (p := p.1) h.iv hp
  · by_cases hi : i < F.length
    · rw [List.getElem?_append_left hi] at hq
      rw [List.take_append_of_le_length (by omega)]
      exact h.fo i q hq
    · have e : i = F.length := by
        have := (List.getElem?_eq_some_iff.mp hq).1
        rw [List.length_append, List.length_singleton] at this
        omega
      subst e
      rw [List.getElem?_append_right (Nat.le_refl _), Nat.sub_self] at hq
      cases hq
      rw [List.take_append_of_le_length (Nat.le_refl _), List.take_length]
      exact h.og _ List.mem_cons_self
theorem IvX.less (h : IvX cs gs ns Z u0 T0 c F R B L (a :: ex)) (h1 : L a ≠ 1) : IvX cs gs ns Z u0 T0 c F R B (lset L a (L a - 1)) ex ∧ 1 ≤ L a :=
  ⟨⟨(h.iv.less h1).1, h.og, h.fo, fun r hr => h.hi r (.less h1 hr)⟩, (h.iv.less h1).2⟩
theorem IvX.fire (h : IvX cs gs ns Z u0 T0 c F R B L (a :: ex)) (h1 : L a = 1) : IvX cs gs ns Z u0 T0 c F R (B ++ [((hd cs a, c + 1), (true, a))]) (lset L a 0) ex := by
  refine ⟨?_, fun q hq => ?_, h.fo, fun r hr => h.hi r (.fire h1 hr)⟩
  · rw [wi_snoc]
    exact h.iv.fire h1
  · rw [← List.append_assoc] at hq
    rcases List.mem_append.mp hq with z | z
    · exact h.og q z
    · rw [List.mem_singleton.mp z]
      have ha := h.iv.el a List.mem_cons_self
      have l := h.iv.lk a ha
      rw [if_pos List.mem_cons_self, h1] at l
      have l0 : lackB (bo cs a) (ks (wi F)) = 0 := by omega
      exact .inr ⟨rfl, ha, rfl, lackB_zero.mp l0⟩
theorem IvX.turn (h : IvX cs gs ns Z u0 T0 c F [] B L []) : IvX cs gs ns Z (nzc L cs.length) T0 c F B [] L [] := by
  refine ⟨h.iv.turn, fun q hq => h.og q (by simpa using hq), h.fo, fun r hr => h.hi r ?_⟩
  cases B with
  | nil => exact hr
  | cons b B => exact .turn (by simp) hr
end
/-! ### on the heap -/
def OgAt (H : Hp) (o : Addr) (g : Og) : Prop := H o = some (.tup [.str (kinS g.1), .int (g.2 : Nat)])
def WAX (H : Hp) (v : V) (q : Wo) : Prop := ∃ (t p o : Addr), v = .ref t ∧ H t = some (.tup [.ref p, .ref o, .int (q.1.2 : Nat)]) ∧ FactAt H p q.1.1 ∧ OgAt H o q.2
def FVX (H : Hp) (v : V) (n : Nat) (g : Og) : Prop := ∃ (o p : Addr), v = .ref o ∧ H o = some (.tup [.ref p, .int (n : Nat)]) ∧ OgAt H p g
theorem WAX.tk {H H' : Hp} {v : V} {q : Wo} (h : WAX H v q) (t : TK H H') : WAX H' v q := by
  obtain ⟨x, p, o, h1, h2, h3, h4⟩ := h
  exact ⟨x, p, o, h1, t _ _ h2, h3.tk t, t _ _ h4⟩
theorem FVX.tk {H H' : Hp} {v : V} {n : Nat} {g : Og} (h : FVX H v n g) (t : TK H H') : FVX H' v n g := by
  obtain ⟨o, p, h1, h2, h3⟩ := h
  exact ⟨o, p, h1, t _ _ h2, t _ _ h3⟩
def WLX (H : Hp) (a : Addr) (R : List Wo) : Prop := ∃ vs, H a = some (.lst vs) ∧ Paired (WAX H) vs R
theorem WLX.tk {H H' : Hp} {a : Addr} {R : List Wo} (h : WLX H a R) (t : TK H H') (e : ∀ vs, H a = some (.lst vs) → H' a = some (.lst vs)) : WLX H' a R := by
  obtain ⟨vs, h1, h2⟩ := h
  exact ⟨vs, e vs h1, Paired.mapP h2 fun _ _ z => z.tk t⟩
def FRX (H : Hp) (kv : Fc × V) (q : Wo) : Prop := kv.1 = q.1.1 ∧ FVX H kv.2 q.1.2 q.2
def FDX (H : Hp) (a : Addr) (F : List Wo) : Prop := ∃ kvs : List (Fc × V), H a = some (.dT kvs) ∧ Paired (FRX H) kvs F
theorem FDX.tk {H H' : Hp} {a : Addr} {F : List Wo} (h : FDX H a F) (t : TK H H') (e : ∀ kvs, H a = some (.dT kvs) → H' a = some (.dT kvs)) : FDX H' a F := by
  obtain ⟨vs, h1, h2⟩ := h
  exact ⟨vs, e vs h1, Paired.mapP h2 fun _ _ z => ⟨z.1, z.2.tk t⟩⟩
theorem frx_keys {H : Hp} {kvs : List (Fc × V)} {F : List Wo} (h : Paired (FRX H) kvs F) : kvs.map (·.1) = ks (wi F) := by
  induction h with
  | nil => rfl
  | cons r _ ih => exact congr (congrArg List.cons r.1) ih
end L2.My
end
section
set_option Elab.async false
set_option linter.all false
set_option maxRecDepth 100000
set_option maxHeartbeats 4000000
namespace L2.My
open PySem PySem.Spec PyProof.Rows
theorem get_lst {X : Cx} : PGet X (fun x y H Q => ∃ p xs i v, x = .ref p ∧ y = .int i ∧ 0 ≤ i ∧ SqL X.K H p xs ∧ atI xs i = some v ∧ Q v H) := by
  intro pins s σ H x y v u Q I rx ry h
  obtain ⟨p, xs, i, z, rfl, rfl, h0, hq, he, q⟩ := h
  cases rx
  obtain ⟨t, rfl⟩ := ry
  obtain ⟨its, r, pl, hz⟩ := I.list hq
  obtain ⟨j, h1, h2, h3, h4, h5⟩ := atI_get he
  obtain ⟨w, ew, rw'⟩ := r.get h2
  have hl := r.length
  have hn := line63
  have hj : i.toNat = j := by
    rw [seqIndex_of h0 h5] at h1
    exact Option.some.inj h1
  exact wpAny_getItem_list pl.isList h0 (by omega) (by rw [hj]; simpa using ew) ⟨z, H, I, rw', q⟩
abbrev nDd : List Str := ["self", "lot", "found", "waiting", "lacking", "behind", "fact", "origin", "turn", "at"]
def gi (gs : List (List Fc)) (ns : List Nat) : List Wo := ns.flatMap fun n => (gs[n]?.getD []).map fun f => ((f, 0), (false, n))
def bi (cs : List Cz) (l : List Nat) : List Wo := l.map fun a => ((hd cs a, 1), (true, a))
/-- where the run starts -/
def StR (cs : List Cz) (gs : List (List Fc)) (ns : List Nat) (r : List Wo) : Prop := Run cs [] [] 0 (gi gs ns ++ bi cs (bares cs)) [] (fun c => (dk (bo cs c)).length) r
def FoundAt (H : Hp) (fd : Addr) (cs : List Cz) (gs : List (List Fc)) (ns : List Nat) : Prop := ∃ F : List Wo, FDX H fd F ∧ F.length ≤ 100000 ∧ (ks (wi F)).Nodup ∧ (∀ f, f ∈ ks (wi F) ↔ Der cs (Gof gs ns) none f) ∧ FoOk cs gs ns F ∧ StR cs gs ns F
def spDerived (C D : Addr) : Sp := fun vs H Q _ => ∃ (x lt dx r dr ca ga u z b : Addr) (cs : List Cz) (gs : List (List Fc)) (ns : List Nat), vs = [.ref x, .ref lt] ∧ RuleAt H C r dr ca ga cs gs ∧ GR cs gs ∧ DerAt H D x dx r u z b cs ∧ H lt = some (.tup (nI ns)) ∧ ns.length ≤ 60 ∧ (∀ n ∈ ns, n < gs.length) ∧
  ∀ H' fd, Same H H' → H fd = none → FoundAt H' fd cs gs ns → Q (.ref fd) H'
theorem WAX.mk {G : Hp} {p o t : Addr} {tn : Int} {n : Nat} {f : Fc} {g : Og} (e : tn = (n : Nat)) (hf : FactAt G p f) (no : G o = none) (nt : (upd G o (.tup [.str (kinS g.1), .int (g.2 : Nat)])) t = none) :
    WAX (upd (upd G o (.tup [.str (kinS g.1), .int (g.2 : Nat)])) t (.tup [.ref p, .ref o, .int tn])) (.ref t) ((f, n), g) ∧ Same G (upd (upd G o (.tup [.str (kinS g.1), .int (g.2 : Nat)])) t (.tup [.ref p, .ref o, .int tn])) := by
  have s1 := same_upd (o := HO.tup [.str (kinS g.1), .int (g.2 : Nat)]) no
  have s2 := same_upd (o := HO.tup [.ref p, .ref o, .int tn]) nt
  subst e
  exact ⟨⟨t, p, o, rfl, upd_same, s2 _ _ (s1 _ _ hf), s2 _ _ upd_same⟩, s1.trans s2⟩
theorem WLX.snoc {G G' : Hp} {wl : Addr} {R : List Wo} {v : V} {q : Wo} {vs : List V} (hw : G wl = some (.lst vs)) (hp : Paired (WAX G) vs R) (s : Same G G') (hv : WAX G' v q) : WLX (upd G' wl (.lst (vs ++ [v]))) wl (R ++ [q]) := by
  have tk : TK G' (upd G' wl (.lst (vs ++ [v]))) := TK.upd (s _ _ hw) (fun xs e => nomatch e)
  exact ⟨_, upd_same, Paired.snoc (Paired.mapP hp fun _ _ z => (z.tk (.same s)).tk tk) (hv.tk tk)⟩
theorem nI_at {ns : List Nat} {i : Nat} {v : V} (h : (nI ns)[i]? = some v) : ∃ n, ns[i]? = some n ∧ v = .int (n : Nat) := by
  unfold nI at h
  rw [List.getElem?_map] at h
  cases e : ns[i]? with
  | none => rw [e] at h; cases h
  | some n => rw [e] at h; exact ⟨n, rfl, (Option.some.inj h).symm⟩
theorem gi_len {gs : List (List Fc)} (h : ∀ g ∈ gs, g.length ≤ 1000) : ∀ {ns : List Nat}, (gi gs ns).length ≤ 1000 * ns.length
  | [] => Nat.le_refl _
  | n :: ns => by
    unfold gi
    rw [List.flatMap_cons, List.length_append, List.length_map, List.length_cons]
    have i1 : (gi gs ns).length ≤ 1000 * ns.length := gi_len h
    unfold gi at i1
    have : (gs[n]?.getD []).length ≤ 1000 := by
      cases e : gs[n]? with
      | none => exact Nat.zero_le _
      | some g => exact h g (List.mem_of_getElem? e)
    omega
theorem wi_gi {gs : List (List Fc)} {ns : List Nat} {p : Wi} : p ∈ wi (gi gs ns) ↔ p.2 = 0 ∧ Gof gs ns p.1 := by
  unfold wi gi Gof
  rw [List.mem_map]
  constructor
  · rintro ⟨q, hq, rfl⟩
    obtain ⟨n, hn, h⟩ := List.mem_flatMap.mp hq
    obtain ⟨f, hf, rfl⟩ := List.mem_map.mp h
    cases e : gs[n]? with
    | none => rw [e] at hf; cases hf
    | some g => rw [e] at hf; exact ⟨rfl, n, hn, g, e, hf⟩
  · rintro ⟨h1, n, hn, g, hg, hf⟩
    refine ⟨((p.1, 0), (false, n)), List.mem_flatMap.mpr ⟨n, hn, List.mem_map.mpr ⟨p.1, ?_, rfl⟩⟩, ?_⟩
    · rw [hg]; exact hf
    · rw [← h1]
theorem gi_og {cs : List Cz} {gs : List (List Fc)} {ns : List Nat} {K : List Fc} {p : Wo} (h : p ∈ gi gs ns) : OgOk cs gs ns K p := by
  unfold gi at h
  obtain ⟨n, hn, h⟩ := List.mem_flatMap.mp h
  obtain ⟨f, hf, rfl⟩ := List.mem_map.mp h
  cases e : gs[n]? with
  | none => rw [e] at hf; cases hf
  | some g => rw [e] at hf; exact .inl ⟨rfl, hn, g, e, hf⟩
theorem bi_og {cs : List Cz} {gs : List (List Fc)} {ns : List Nat} {K : List Fc} {p : Wo} (h : p ∈ bi cs (bares cs)) : OgOk cs gs ns K p := by
  unfold bi at h
  obtain ⟨a, ha, rfl⟩ := List.mem_map.mp h
  unfold bares at ha
  rw [List.mem_filter, List.mem_range, decide_eq_true_eq] at ha
  refine .inr ⟨rfl, ha.1, rfl, fun f hf => ?_⟩
  have := mem_dk.mpr hf
  rw [List.length_eq_zero_iff.mp ha.2] at this
  cases this
theorem w_start {cs : List Cz} {gs : List (List Fc)} {ns : List Nat} : IvX cs gs ns (StR cs gs ns) (nzc (fun c => (dk (bo cs c)).length) cs.length) ((gi gs ns ++ bi cs (bares cs)).length + cs.length) 0 [] (gi gs ns ++ bi cs (bares cs)) [] (fun c => (dk (bo cs c)).length) [] := by
  refine ⟨?_, fun p hp => ?_, fun i p h => by simp at h, fun r h => h⟩
  · have e : (gi gs ns ++ bi cs (bares cs)).length = (wi (gi gs ns) ++ wi (bi cs (bares cs))).length := by unfold wi; simp
    rw [wi_app, e]
    refine Iv.start (fun p => wi_gi) fun p => ?_
    unfold wi bi
    rw [List.map_map, List.mem_map]
    constructor
    · rintro ⟨a, ha, rfl⟩
      exact ⟨rfl, a, ha, rfl⟩
    · rintro ⟨e, a, ha, e2⟩
      refine ⟨a, ha, ?_⟩
      show (hd cs a, 1) = p
      rw [← e, ← e2]
  · rw [List.append_nil] at hp
    rcases List.mem_append.mp hp with z | z
    · exact gi_og z
    · exact bi_og z
section
variable {cs : List Cz} {gs : List (List Fc)} {ns : List Nat} {Z : List Wo → Prop} {u0 T0 c : Nat} {F R B : List Wo} {L : Nat → Nat} {ex : List Nat}
theorem IvX.tt (h : IvX cs gs ns Z u0 T0 c F R B L ex) : F.length + R.length + B.length + nzc L cs.length ≤ T0 := by
  have := h.iv.tt
  unfold wi at this
  rw [List.length_map, List.length_map, List.length_map] at this
  exact this
theorem IvX.nz (h : IvX cs gs ns Z u0 T0 c F R B L ex) : nzc L cs.length + B.length ≤ u0 := by
  have := h.iv.nz
  unfold wi at this
  rw [List.length_map] at this
  exact this
theorem IvX.nd (h : IvX cs gs ns Z u0 T0 c F R B L ex) : (ks (wi F)).Nodup := h.iv.nd
theorem IvX.el (h : IvX cs gs ns Z u0 T0 c F R B L ex) : ∀ c ∈ ex, c < cs.length := h.iv.el
theorem IvX.lk (h : IvX cs gs ns Z u0 T0 c F R B L ex) : ∀ c, c < cs.length → L c = lackB (bo cs c) (ks (wi F)) + if c ∈ ex then 1 else 0 := h.iv.lk
theorem IvX.done (h : IvX cs gs ns Z u0 T0 c F [] [] L []) (f : Fc) : f ∈ ks (wi F) ↔ Der cs (Gof gs ns) none f := h.iv.done f
end
theorem bares_lt {cs : List Cz} {a : Nat} (h : a ∈ bares cs) : a < cs.length := by
  unfold bares at h
  rw [List.mem_filter, List.mem_range] at h
  exact h.1
theorem bares_len {cs : List Cz} : (bares cs).length ≤ cs.length := by
  unfold bares
  exact Nat.le_trans (List.length_filter_le _ _) (Nat.le_of_eq List.length_range)
theorem WLX.app {G : Hp} {wl d : Addr} {R B : List Wo} {vs0 us : List V} (hv : G wl = some (.lst vs0)) (p1 : Paired (WAX G) vs0 R) (p2 : Paired (WAX G) us B) : WLX (upd G wl (.lst (vs0 ++ us))) wl (R ++ B) := by
  have tk : TK G (upd G wl (.lst (vs0 ++ us))) := TK.upd hv (fun xs e => nomatch e)
  refine ⟨_, upd_same, ?_⟩
  have gen : ∀ {vs : List V} {R : List Wo}, Paired (WAX (upd G wl (.lst (vs0 ++ us)))) vs R → Paired (WAX (upd G wl (.lst (vs0 ++ us)))) (vs ++ us) (R ++ B) := by
    intro vs R p1
    induction p1 with
    | nil => exact Paired.mapP p2 fun _ _ z => z.tk tk
    | cons r _ ih => exact .cons r ih
  exact gen (Paired.mapP p1 fun _ _ z => z.tk tk)
section
variable {P : Program} {w : World} {K : PySem.W.Frag} {mg : Str → Option Value} {base : Heap} {C D : Addr}
theorem scDd : FnScope nDd ["self", "lot"] (defScope (mD 1)) := ⟨rfl, rfl, rfl, by decide +kernel, rfl, by decide +kernel, by decide +kernel⟩
theorem ok_derived {f : Addr} {fd : FuncData} {k : Nat} (F : Fun K "derived" "Deriver.derived" (mD 1) f fd) (T : Tx mg) (rc : RuC K C) (c : DeC K D) : FnOk P w K mg base CX0 (k + 1) f fd ["self", "lot"] (spDerived C D) := by
  refine F.ok scDd (fun vs H Q E h => ?_) (fun cdv A outer s H vs Q E hr h => ?_)
  · obtain ⟨x, lt, dx, r, dr, ca, ga, u, z, b, cs, gs, ns, rfl, _⟩ := h
    rfl
  · obtain ⟨x, lt, dx, r, dr, ca, ga, u, z, b, cs, gs, ns, rfl, hR, hG, hD, hlt, hnl, hnb, q⟩ := h
    refine ⟨_, (pss_cons (ps_set (i := 2) scDd.nd rfl (Or.inl rfl) pe_dnewT) (pss_cons (ps_setLc2 (own := [("at", 9), ("fact", 6)]) (vs1 := [6]) (i := 3) (g := gName 9) (g1 := gName 6) (wi1 := iTup K (tOp (rIxT K) (tFld K (tFld K (tVar 0) "rule") "grounds") (tVar 9))) (te := tTup (tCons (tVar 6) (tCons (tTup (tCons (tC (.str "ground")) (tCons (tVar 9) tNil))) (tCons (tC (.int 0)) tNil)))) rfl scDd.nd rfl rfl (sw_true rfl rfl rfl (by decide +kernel)) (pi_tup (pv 1))
        (blkOk_by (N := nDd) (sc := defScope (mD 1)) (by decide +kernel)) (by decide) (fun _ _ _ _ _ => (pg_name (i := 9) scDd.nd rfl (Or.inl rfl))) (fun _ _ _ _ _ => pts_nil) (fun _ _ _ _ _ => pi_tup (pe_ix ix_tup (pe_fld (pe_fld (pv 0) rfl) rfl) (pv 9) (fun _ _ => rfl))) (fun _ _ _ _ _ => (pg_name (i := 6) scDd.nd rfl (Or.inl rfl))) (fun _ _ _ _ _ => pts_nil) (fun _ _ _ _ _ => (pe_tup (pa_cons (pv 6) (pa_cons (pe_tup (pa_cons pe_str (pa_cons (pv 9) pa_nil))) (pa_cons pe_int pa_nil)))))) (pss_cons (ps_expr (pe_bm PySem.F.plainAttrs_list PySem.F.slot_list_extend PySem.F.type_list_extend mt_extend (pv 3) (pa_cons (pe_lc (own := [("at", 9)]) (g := gName 9) (te := tTup (tCons (tOp (rIxT K) (tOp (rIxT K) (tFld K (tFld K (tVar 0) "rule") "clauses") (tVar 9)) (tC (.int 1))) (tCons (tTup (tCons (tC (.str "clause")) (tCons (tVar 9) tNil))) (tCons (tC (.int 1)) tNil)))) rfl scDd.nd (pi_list (pe_fld (pv 0) rfl)) (blkOk_by (N := nDd) (sc := defScope (mD 1)) (by decide +kernel)) (fun _ _ _ _ _ => pg_name (i := 9) scDd.nd rfl (Or.inl rfl)) (fun _ _ _ _ _ => pts_nil) (fun _ _ _ _ _ => (pe_tup (pa_cons (pe_ix ix_tup (pe_ix ix_tup (pe_fld (pe_fld (pv 0) rfl) rfl) (pv 9) (fun _ _ => rfl)) pe_int (fun _ _ => rfl)) (pa_cons (pe_tup (pa_cons pe_str (pa_cons (pv 9) pa_nil))) (pa_cons pe_int pa_nil)))))) pa_nil))) (pss_cons (ps_set (i := 4) scDd.nd rfl (Or.inl rfl) (pe_callTy call_list_of (by rfl) T.list_ (by decide +kernel) (pa_cons (pe_fld (pv 0) rfl) pa_nil))) (pss_cons (ps_while PassesOwn.never (pt_truth (pv 3) (fun _ => rfl)) (pss_cons (ps_set (i := 5) scDd.nd rfl (Or.inl rfl) (pe_lst pa_nil)) (pss_cons (ps_for PassesOwn.never rfl (pi_list (pv 3)) (pg_tup rfl (pgs_cons (pg_name (i := 6) scDd.nd rfl (Or.inl rfl)) (pgs_cons (pg_name (i := 7) scDd.nd rfl (Or.inl rfl)) (pgs_cons (pg_name (i := 8) scDd.nd rfl (Or.inl rfl)) pgs_nil)))) (pss_cons (ps_if (pt_cmp (pc_din (u1 hr) (pv 6) (pv 2))) (pss_one ps_continue) pss_nil) (pss_cons (ps_dput (u1 hr) (pv 2) (pv 6) (pe_tup (pa_cons (pv 7) (pa_cons (pv 8) pa_nil))) rfl) (pss_one (ps_for PassesOwn.never rfl (pi_list (pe_dget2 (u1 hr) (pe_fld (pv 0) rfl) (pv 6) (pe_lst pa_nil) ⟨rfl, rfl, rfl, rfl⟩)) (pg_name (i := 9) scDd.nd rfl (Or.inl rfl)) (pss_cons (ps_augS (pv 4) (pv 9) get_lst pe_int ip_sub set_list) (pss_one (ps_if (pt_cmpR op_eq (pe_ix ix_list (pv 4) (pv 9) (fun _ _ => rfl)) pe_int (nomark _)) (pss_one (ps_expr (pe_bm PySem.F.plainAttrs_list PySem.F.slot_list_append PySem.F.type_list_append mt_append (pv 5) (pa_cons (pe_tup (pa_cons (pe_ix ix_tup (pe_ix ix_tup (pe_fld (pe_fld (pv 0) rfl) rfl) (pv 9) (fun _ _ => rfl)) pe_int (fun _ _ => rfl)) (pa_cons (pe_tup (pa_cons pe_str (pa_cons (pv 9) pa_nil))) (pa_cons (pe_op op_add (pv 8) pe_int) pa_nil)))) pa_nil)))) pss_nil)))))))) (pss_one (ps_set (i := 3) scDd.nd rfl (Or.inl rfl) (pv 5)))))) (pss_one (ps_ret (pv 2)))))))), ?_⟩
    intro fd nfd
    obtain ⟨hx, hU, hz, hb⟩ := id hD
    obtain ⟨gas, hga, hgp⟩ := id hR.2.2
    obtain ⟨cas, hca, hcp⟩ := id hR.2.1
    have s1 : Same H (upd H fd (.dT [])) := same_upd nfd
    generalize hH1 : upd H fd (.dT []) = H1 at *
    have hfd1 : H1 fd = some (.dT []) := by rw [← hH1]; exact upd_same
    have tk0 : ∀ {G : Hp}, Same H1 G → TK H G := fun s => .same (s1.trans s)
    have lns : (nI ns).length = ns.length := by unfold nI; simp
    refine ⟨_, rfl, lt, rfl, ⟨_, .of (s1 _ _ hlt)⟩, fun wl nwl => ?_⟩
    have nwH : H wl = none := s1.free nwl
    have nwf : wl ≠ fd := fun e => by rw [e, hfd1] at nwl; cases nwl
    refine lc2_it walk_tup (fun i G => Same H1 G ∧ WLX G wl (gi gs (ns.take i))) ⟨same_upd nwl, [], upd_same, .nil⟩ (fun i G _ h => .of (h.1 _ _ (s1 _ _ hlt))) ?_ ?_
    · rintro i v G G' hi ⟨sm, hw⟩ ⟨rfl, hv⟩
      obtain ⟨n, hn, rfl⟩ := nI_at hv
      have hng := hnb n (List.mem_of_getElem? hn)
      obtain ⟨g, hg⟩ : ∃ g, gs[n]? = some g := ⟨_, List.getElem?_eq_getElem hng⟩
      obtain ⟨pg, hpg1, hpg2⟩ := Paired.at hgp hg
      obtain ⟨fas, hfa, hfp⟩ := hpg2
      have lf := Paired.len hfp
      have gl := hG.nf g (List.mem_of_getElem? hg)
      refine ⟨rfl, ?_⟩
      refine ⟨_, rfl, x, D, dx, _, _, rfl, sm _ _ (s1 _ _ hx), c.cls, c.na _ (by simp), rfl, r, C, dr, _, _, rfl, sm _ _ (s1 _ _ hR.1), rc.cls, rc.na _ (by simp), rfl, _, rfl, ga, _, _, .ref pg, rfl, rfl, .of (tk0 sm _ _ hga), atI_nat (j := n) (by rw [List.getElem?_map, hpg1]; rfl), pg, rfl, ⟨_, .of (tk0 sm _ _ hfa)⟩, ?_⟩
      refine inn_it (walk_tup (xs := fas.map V.ref)) (fun j G3 => Same H1 G3 ∧ WLX G3 wl (gi gs (ns.take i) ++ (g.take j).map fun f => ((f, 0), (false, n)))) ⟨sm, by rw [List.take_zero, List.map_nil, List.append_nil]; exact hw⟩ (fun j G3 _ h => .of (tk0 h.1 _ _ hfa)) ?_ ?_
      · rintro j v2 G3 G3' hj ⟨sm3, vs, hvs, hvp⟩ ⟨rfl, hv2⟩
        obtain ⟨pf, hpf, rfl⟩ := ref_at hv2
        obtain ⟨f0, hf0, hff⟩ := Paired.at' hfp hpf
        refine ⟨rfl, _, rfl, _, rfl, by show 2 ≤ sizeLine; decide, fun o no => ⟨by show 3 ≤ sizeLine; decide, fun t nt => ?_⟩⟩
        obtain ⟨wa, ss⟩ := WAX.mk (g := (false, n)) (n := 0) rfl (hff.tk (tk0 sm3)) no nt
        refine ⟨vs, ss _ _ hvs, ?_, same_put (sm3.trans ss) nwl, ?_⟩
        · have e1 := Paired.len hvp
          have e2 := gi_len (ns := ns.take i) hG.nf
          rw [List.length_append, List.length_map] at e1
          have e3 : (ns.take i).length ≤ 60 := Nat.le_trans (by rw [List.length_take]; exact Nat.min_le_right _ _) hnl
          have e4 : (g.take j).length ≤ 1000 := Nat.le_trans (by rw [List.length_take]; exact Nat.min_le_right _ _) gl
          exact Nat.lt_of_le_of_lt (show vs.length ≤ 61000 by omega) (by decide)
        · rw [take_snoc hf0, List.map_append, ← List.append_assoc]
          exact WLX.snoc hvs hvp ss wa
      · rintro G3 ⟨sm3, hw3⟩
        refine ⟨sm3, ?_⟩
        rw [List.length_map, lf, List.take_length] at hw3
        rw [take_snoc hn]
        have : gi gs (ns.take i ++ [n]) = gi gs (ns.take i) ++ g.map fun f => ((f, 0), (false, n)) := by unfold gi; rw [List.flatMap_append]; simp [hg]
        rw [this]
        exact hw3
    · rintro G ⟨sm, hw⟩
      rw [lns, List.take_length] at hw
      obtain ⟨vs, hvs, hvp⟩ := hw
      have hcl : ∀ {G : Hp}, Same H1 G → ∀ a, a < cs.length → ∃ pc pb ph, cas[a]? = some pc ∧ G pc = some (.tup [.ref pb, .ref ph]) ∧ FactAt G ph (hd cs a) := fun sm a ha => by
        obtain ⟨pc, h1, pb, ph, h2, _, h3⟩ := Paired.at hcp (bo_at ha)
        exact ⟨pc, pb, ph, h1, tk0 sm _ _ h2, h3.tk (tk0 sm)⟩
      have hclH : ∀ {G : Hp}, Same H G → ∀ a, a < cs.length → ∃ pc pb ph, cas[a]? = some pc ∧ G pc = some (.tup [.ref pb, .ref ph]) ∧ FactAt G ph (hd cs a) := fun sm a ha => by
        obtain ⟨pc, h1, pb, ph, h2, _, h3⟩ := Paired.at hcp (bo_at ha)
        exact ⟨pc, pb, ph, h1, sm _ _ h2, h3.tk (.same sm)⟩
      have lb : (nI (bares cs)).length = (bares cs).length := by unfold nI; simp
      have sH : ∀ {G : Hp}, Same H1 G → Same H G := fun s => s1.trans s
      refine ⟨_, rfl, .inl ⟨rfl, _, SqL.of hvs⟩, _, rfl, x, D, dx, _, _, rfl, sH sm _ _ hx, c.cls, c.na _ (by simp), rfl, b, rfl, ⟨_, SqL.of (sH sm _ _ hb)⟩, fun Dl nDl => ?_⟩
      refine lc_it (walk_list (xs := nI (bares cs))) (fun i G3 => Same G G3 ∧ WLX G3 Dl (bi cs ((bares cs).take i))) ⟨same_upd nDl, [], upd_same, .nil⟩ (fun i G3 _ h => SqL.of (h.1 _ _ (sH sm _ _ hb))) ?_ ?_
      · rintro i v G3 G3' hi ⟨sm3, us3, hus, hup⟩ ⟨rfl, hv⟩
        obtain ⟨a, ha, rfl⟩ := nI_at hv
        have hac := bares_lt (List.mem_of_getElem? ha)
        have sm13 := sm.trans sm3
        obtain ⟨pc, pb, ph, h1, h2, h3⟩ := hcl sm13 a hac
        refine ⟨rfl, _, rfl, x, D, dx, _, _, rfl, sH sm13 _ _ hx, c.cls, c.na _ (by simp), rfl, r, C, dr, _, _, rfl, sH sm13 _ _ hR.1, rc.cls, rc.na _ (by simp), rfl, _, rfl, ca, _, _, .ref pc, rfl, rfl, .of (sH sm13 _ _ hca), atI_nat (j := a) (by rw [List.getElem?_map, h1]; rfl), pc, _, _, .ref ph, rfl, rfl, .of h2, atI_nat (j := 1) rfl, ?_⟩
        refine ⟨_, rfl, by show 2 ≤ sizeLine; decide, fun o no => ⟨by show 3 ≤ sizeLine; decide, fun t nt => ?_⟩⟩
        obtain ⟨wa, ss⟩ := WAX.mk (g := (true, a)) (n := 1) rfl h3 no nt
        refine ⟨us3, ss _ _ hus, ?_, same_put (sm3.trans ss) nDl, ?_⟩
        · have e1 := Paired.len hup
          unfold bi at e1
          rw [List.length_map, List.length_take] at e1
          have := bares_len (cs := cs)
          have := hG.nc
          exact Nat.lt_of_le_of_lt (show us3.length ≤ 1000 by omega) (by decide)
        · have : bi cs ((bares cs).take (i + 1)) = bi cs ((bares cs).take i) ++ [((hd cs a, 1), (true, a))] := by unfold bi; rw [take_snoc ha, List.map_append]; rfl
          rw [this]
          exact WLX.snoc hus hup ss wa
      · rintro G4 ⟨sm4, us4, hus, hup⟩
        rw [lb, List.take_length] at hup
        have sm14 := sm.trans sm4
        have hvs4 := sm4 _ _ hvs
        have hvp4 := Paired.mapP hvp fun _ _ z => z.tk (.same sm4)
        refine ⟨wl, Dl, vs, us4, rfl, rfl, hvs4, hus, ?_, ?_⟩
        · have e1 := Paired.len hvp
          have e2 := gi_len (ns := ns) hG.nf
          have e3 := Paired.len hup
          have e4 := bares_len (cs := cs)
          have := hG.nc
          unfold bi at e3
          rw [List.length_map] at e3
          exact Nat.le_trans (show vs.length + us4.length ≤ 62000 by omega) (by decide)
        have hw5 := WLX.app (d := Dl) hvs4 hvp4 hup
        have sm5 : Same H1 (upd G4 wl (.lst (vs ++ us4))) := same_put sm14 nwl
        generalize hG5 : upd G4 wl (.lst (vs ++ us4)) = G5 at *
        refine ⟨_, rfl, x, D, dx, _, _, rfl, sH sm5 _ _ hx, c.cls, c.na _ (by simp), rfl, z, _, rfl, .inl (SqL.of (sH sm5 _ _ hz)), fun lk nlk => ?_⟩
        have s6 : Same G5 (upd G5 lk (.lst (nI (szs cs cs.length)))) := same_upd nlk
        have sm6 := sm5.trans s6
        have elk : nI (szs cs cs.length) = lacV (fun c => (dk (bo cs c)).length) cs.length := by unfold nI szs lacV; rw [List.map_map]; rfl
        have hlk6 : (upd G5 lk (.lst (nI (szs cs cs.length)))) lk = some (.lst (lacV (fun c => (dk (bo cs c)).length) cs.length)) := by rw [upd_same, elk]
        have hlH : H lk = none := (sH sm5).free nlk
        have hw6 : WLX (upd G5 lk (.lst (nI (szs cs cs.length)))) wl (gi gs ns ++ bi cs (bares cs)) := hw5.tk (.same s6) fun vs h => s6 _ _ h
        have nwk : wl ≠ lk := fun e => by
          obtain ⟨_, h, _⟩ := hw5
          rw [e, nlk] at h; cases h
        have hT0 : (gi gs ns ++ bi cs (bares cs)).length + cs.length ≤ 62000 := by
          have e2 := gi_len (ns := ns) hG.nf
          have e4 := bares_len (cs := cs)
          have := hG.nc
          unfold bi
          rw [List.length_append, List.length_map]
          omega
        generalize hT : (gi gs ns ++ bi cs (bares cs)).length + cs.length = T0 at *
        have iv0 := w_start (cs := cs) (gs := gs) (ns := ns)
        rw [hT] at iv0
        dsimp only [gName, tSeq]
        refine while_m (fun m σ G => ∃ wl y5 y6 y7 y8 y9 Fw R L cu, σ = [some (.ref x), some (.ref lt), some (.ref fd), some (.ref wl), some (.ref lk), y5, y6, y7, y8, y9] ∧ Same H G ∧ FDX G fd Fw ∧ WLX G wl R ∧ G lk = some (.lst (lacV L cs.length)) ∧ H wl = none ∧ wl ≠ lk ∧ IvX cs gs ns (StR cs gs ns) (nzc L cs.length) T0 cu Fw R [] L [] ∧ m = 2 * nzc L cs.length + if R = [] then 0 else 1)
          ⟨_, wl, _, _, _, _, _, [], _, _, _, rfl, sH sm6, ⟨[], sm6 _ _ hfd1, .nil⟩, hw6, hlk6, nwH, nwk, iv0, rfl⟩ ?_ (fun σ H Q Q' w h => by obtain ⟨v, e, k, t, q⟩ := h; exact ⟨v, e, k, t, w _ _ q⟩)
        clear hw6 hlk6 sm6 hw5 hvs4 hvp4 hvs hvp hus hup hG5
        rintro m σ G ⟨wl, y5, y6, y7, y8, y9, Fw, R, L, cu, rfl, sm, hF, ⟨vs, hvs, hvp⟩, hlk, nw, nwk, iv, rfl⟩
        cases R with
        | nil =>
          cases hvp
          refine ⟨_, rfl, false, .inl ⟨[], SqL.of hvs, rfl⟩, iteF ?_⟩
          refine ⟨_, rfl, q G fd sm nfd ⟨Fw, hF, ?_, iv.nd, iv.done, iv.fo, iv.hi _ .fin⟩⟩
          have := iv.tt
          omega
        | cons r0 R0 =>
          have hne : (!vs.isEmpty) = true := by cases hvp; rfl
          refine ⟨_, rfl, true, .inl ⟨vs, SqL.of hvs, hne.symm⟩, iteT ?_⟩
          refine ⟨by decide, fun bh nbh => ?_⟩
          have nbw : bh ≠ wl := fun e => by rw [e, hvs] at nbh; cases nbh
          have nbk : bh ≠ lk := fun e => by rw [e, hlk] at nbh; cases nbh
          have nbH : H bh = none := sm.free nbh
          have s7 : Same G (upd G bh (.lst [])) := same_upd nbh
          generalize hRR : r0 :: R0 = R at *
          have hlen := Paired.len hvp
          have hne2 : R ≠ [] := by rw [← hRR]; exact fun z => nomatch z
          refine ⟨_, rfl, wl, rfl, ⟨_, SqL.of (s7 _ _ hvs)⟩, ?_⟩
          refine for_it (walk_list (xs := vs)) (fun j σ G => ∃ y6 y7 y8 y9 Fw L' B cu, σ = [some (.ref x), some (.ref lt), some (.ref fd), some (.ref wl), some (.ref lk), some (.ref bh), y6, y7, y8, y9] ∧ Same H G ∧ G wl = some (.lst vs) ∧ Paired (WAX G) vs R ∧ FDX G fd Fw ∧ WLX G bh B ∧ G lk = some (.lst (lacV L' cs.length)) ∧ IvX cs gs ns (StR cs gs ns) (nzc L cs.length) T0 cu Fw (R.drop j) B L' [])
            ⟨_, _, _, _, Fw, L, [], cu, rfl, sm.trans s7, s7 _ _ hvs, Paired.mapP hvp fun _ _ z => z.tk (.same s7), hF.tk (.same s7) (fun kvs h => s7 _ _ h), ⟨[], upd_same, .nil⟩, s7 _ _ hlk, iv⟩ (fun j σ G _ h => ?_) ?_ ?_
          · obtain ⟨_, _, _, _, _, _, _, _, rfl, _, h, _⟩ := h
            exact SqL.of h
          · rintro j v σ G5 G5' hj ⟨y6, y7, y8, y9, Fw5, L5, B5, cu5, rfl, sm5, hvs5, hvp5, ⟨kvs, hkv, hkp⟩, ⟨bs, hbs, hbp⟩, hlk5, iv5⟩ ⟨rfl, hv⟩
            obtain ⟨q0, hq0, t, p, o, rfl, ht, hfp, hog⟩ := Paired.at' hvp5 hv
            obtain ⟨tn, htn⟩ : ∃ tn : Int, tn = (q0.1.2 : Nat) := ⟨_, rfl⟩
            rw [← htn] at ht
            have hdrop : R.drop j = q0 :: R.drop (j + 1) := by
              obtain ⟨h1, h2⟩ := List.getElem?_eq_some_iff.mp hq0
              rw [← h2]
              exact List.drop_eq_getElem_cons h1
            rw [hdrop] at iv5
            have hks := frx_keys hkp
            refine ⟨t, _, rfl, .of ht, rfl, _, _, rfl, _, _, rfl, _, _, rfl, rfl, ?_⟩
            refine ⟨_, rfl, _, rfl, fd, _, rfl, DGet.t hkv hfp, _, rfl, ?_⟩
            by_cases hin : q0.1.1 ∈ ks (wi Fw5)
            · have hsome : (valV kvs q0.1.1).isSome = true := by
                cases e : valV kvs q0.1.1 with
                | none => exact absurd (hks ▸ hin) (valV_iff.mp e)
                | some _ => rfl
              rw [hsome]
              exact iteT ⟨_, _, _, _, Fw5, L5, B5, cu5, rfl, sm5, hvs5, hvp5, ⟨kvs, hkv, hkp⟩, ⟨bs, hbs, hbp⟩, hlk5, iv5.skip hin⟩
            have hnone : valV kvs q0.1.1 = none := valV_iff.mpr (by rw [hks]; exact hin)
            rw [hnone]
            refine iteF ?_
            have lk5 := Paired.len hkp
            have ltt := iv5.tt
            have nfw : wl ≠ fd := fun e => by rw [e, hkv] at hvs5; cases hvs5
            have nfb : bh ≠ fd := fun e => by rw [e, hkv] at hbs; cases hbs
            have nfk : lk ≠ fd := fun e => by rw [e, hkv] at hlk5; cases hlk5
            refine ⟨_, rfl, _, rfl, by show 2 ≤ sizeLine; decide, fun t2 nt2 => ?_⟩
            have s6 : Same G5' (upd G5' t2 (.tup [.ref o, .int tn])) := same_upd nt2
            have sm6 := sm5.trans s6
            refine ⟨_, rfl, _, rfl, fd, _, rfl, DPut.t (s6 _ _ hkv) (s6 _ _ hfp) (Nat.lt_of_le_of_lt (show kvs.length ≤ 62000 by omega) (by decide)), ?_⟩
            have hkv6 := s6 _ _ hkv
            have ht6 : (upd G5' t2 (.tup [.ref o, .int tn])) t2 = some (.tup [.ref o, .int tn]) := upd_same
            have nft : t2 ≠ fd := fun e => by rw [e, hkv] at nt2; cases nt2
            generalize hG6 : upd G5' t2 (.tup [.ref o, .int tn]) = G6 at *
            have tk7 : TK G6 (upd G6 fd (.dT (putK kvs q0.1.1 (.ref t2)))) := TK.upd hkv6 (fun xs e => nomatch e)
            have tk57 : TK G5' (upd G6 fd (.dT (putK kvs q0.1.1 (.ref t2)))) := TK.trans (.same s6) tk7
            have sm7 : Same H (upd G6 fd (.dT (putK kvs q0.1.1 (.ref t2)))) := same_put sm6 nfd
            have hF7 : FDX (upd G6 fd (.dT (putK kvs q0.1.1 (.ref t2)))) fd (Fw5 ++ [q0]) := by
              refine ⟨_, upd_same, ?_⟩
              rw [putK_new _ hnone]
              refine Paired.snoc (Paired.mapP hkp fun _ _ z => ⟨z.1, z.2.tk (by rw [← putK_new (.ref t2) hnone]; exact tk57)⟩) ⟨rfl, t2, o, rfl, ?_, ?_⟩
              · rw [← putK_new (.ref t2) hnone, ← htn]; exact tk7 _ _ ht6
              · rw [← putK_new (.ref t2) hnone]; exact tk57 _ _ hog
            have hvs7 : (upd G6 fd (.dT (putK kvs q0.1.1 (.ref t2)))) wl = some (.lst vs) := by rw [upd_ne nfw]; exact s6 _ _ hvs5
            have hbs7 : (upd G6 fd (.dT (putK kvs q0.1.1 (.ref t2)))) bh = some (.lst bs) := by rw [upd_ne nfb]; exact s6 _ _ hbs
            have hlk7 : (upd G6 fd (.dT (putK kvs q0.1.1 (.ref t2)))) lk = some (.lst (lacV L5 cs.length)) := by rw [upd_ne nfk]; exact s6 _ _ hlk5
            have hfp7 := hfp.tk tk57
            have hvp7 := Paired.mapP hvp5 fun _ _ z => z.tk tk57
            have hbp7 := Paired.mapP hbp fun _ _ z => z.tk tk57
            generalize hG7 : upd G6 fd (.dT (putK kvs q0.1.1 (.ref t2))) = G7 at *
            have iv6 := iv5.take hin
            obtain ⟨ukv, hu, _, hU3, hU4, _⟩ := id hU
            refine ⟨_, rfl, x, D, dx, _, _, rfl, sm7 _ _ hx, c.cls, c.na _ (by simp), rfl, u, rfl, .inr ⟨_, .of (sm7 _ _ hu)⟩, _, rfl, by decide, fun l0 nl0 => ?_⟩
            have s8 : Same G7 (upd G7 l0 (.lst [])) := same_upd nl0
            have sm8 := sm7.trans s8
            have hua : ∃ ua, (valV ukv q0.1.1).getD (.ref l0) = .ref ua ∧ (upd G7 l0 (.lst [])) ua = some (.lst (nI (us cs cs.length q0.1.1))) ∧ ua ≠ bh ∧ ua ≠ lk := by
              cases e : valV ukv q0.1.1 with
              | none =>
                refine ⟨l0, rfl, ?_, fun z => ?_, fun z => ?_⟩
                · rw [upd_same, hU3 _ e]; rfl
                · rw [z, hbs7] at nl0; cases nl0
                · rw [z, hlk7] at nl0; cases nl0
              | some v0 =>
                obtain ⟨l, rfl, hl, _⟩ := hU4 _ _ e
                exact ⟨l, rfl, sm8 _ _ hl, (fun z => by rw [z, nbH] at hl; cases hl), (fun z => by rw [z, hlH] at hl; cases hl)⟩
            obtain ⟨ua, eua, hua8, nub, nuk⟩ := hua
            refine ⟨_, DGet.t (sm8 _ _ hu) (s8 _ _ hfp7), ua, eua, ⟨_, SqL.of hua8⟩, ?_⟩
            refine for_it (walk_list (xs := nI (us cs cs.length q0.1.1))) (fun i σ G => ∃ y9 L' B, σ = [some (.ref x), some (.ref lt), some (.ref fd), some (.ref wl), some (.ref lk), some (.ref bh), some (.ref p), some (.ref o), some (.int tn), y9] ∧ Same H G ∧ G wl = some (.lst vs) ∧ Paired (WAX G) vs R ∧ FDX G fd (Fw5 ++ [q0]) ∧ WLX G bh B ∧ G lk = some (.lst (lacV L' cs.length)) ∧ G ua = some (.lst (nI (us cs cs.length q0.1.1))) ∧ IvX cs gs ns (StR cs gs ns) (nzc L cs.length) T0 q0.1.2 (Fw5 ++ [q0]) (R.drop (j + 1)) B L' ((us cs cs.length q0.1.1).drop i))
              ⟨_, L5, B5, rfl, sm8, s8 _ _ hvs7, Paired.mapP hvp7 fun _ _ z => z.tk (.same s8), hF7.tk (.same s8) (fun kvs h => s8 _ _ h), ⟨bs, s8 _ _ hbs7, Paired.mapP hbp7 fun _ _ z => z.tk (.same s8)⟩, s8 _ _ hlk7, hua8, iv6⟩ (fun i σ G _ h => ?_) ?_ ?_
            · obtain ⟨_, _, _, rfl, _, _, _, _, _, _, h, _⟩ := h
              exact SqL.of h
            · rintro i v σ G9 G9' hi ⟨y9, L9, B9, rfl, sm9, hvs9, hvp9, hF9, ⟨bs9, hbs9, hbp9⟩, hlk9, hua9, iv9⟩ ⟨rfl, hv9⟩
              obtain ⟨e9, he9, rfl⟩ := nI_at hv9
              have hdr9 : (us cs cs.length q0.1.1).drop i = e9 :: (us cs cs.length q0.1.1).drop (i + 1) := by
                obtain ⟨h1, h2⟩ := List.getElem?_eq_some_iff.mp he9
                rw [← h2]
                exact List.drop_eq_getElem_cons h1
              rw [hdr9] at iv9
              have hec : e9 < cs.length := iv9.el e9 (by simp)
              have hl9 := iv9.lk e9 hec
              rw [if_pos (by simp)] at hl9
              have hix : ixN (lacV L9 cs.length).length ((e9 : Nat) : Int) = some e9 := by
                unfold ixN
                rw [lacV_len, if_pos (Int.natCast_nonneg _), if_pos (by omega)]
                rfl
              refine ⟨_, rfl, _, rfl, lk, _, _, _, rfl, rfl, Int.natCast_nonneg _, SqL.of hlk9, atI_nat (lacV_at hec), _, _, rfl, rfl, lk, _, _, _, rfl, rfl, hlk9, hix, ?_⟩
              have esub : ((L9 e9 : Nat) : Int) - 1 = ((L9 e9 - 1 : Nat) : Int) := by omega
              dsimp only
              rw [esub, lacV_set]
              have nlf : lk ≠ fd := nfk
              have tk10 : TK G9' (upd G9' lk (.lst (lacV (lset L9 e9 (L9 e9 - 1)) cs.length))) := TK.upd hlk9 (fun xs e => nomatch e)
              have sm10 : Same H (upd G9' lk (.lst (lacV (lset L9 e9 (L9 e9 - 1)) cs.length))) := same_put sm9 hlH
              have hvs10 : (upd G9' lk (.lst (lacV (lset L9 e9 (L9 e9 - 1)) cs.length))) wl = some (.lst vs) := by rw [upd_ne nwk]; exact hvs9
              have hbs10 : (upd G9' lk (.lst (lacV (lset L9 e9 (L9 e9 - 1)) cs.length))) bh = some (.lst bs9) := by rw [upd_ne nbk]; exact hbs9
              have hua10 : (upd G9' lk (.lst (lacV (lset L9 e9 (L9 e9 - 1)) cs.length))) ua = some (.lst (nI (us cs cs.length q0.1.1))) := by rw [upd_ne nuk]; exact hua9
              have hlk10 : (upd G9' lk (.lst (lacV (lset L9 e9 (L9 e9 - 1)) cs.length))) lk = some (.lst (lacV (lset L9 e9 (L9 e9 - 1)) cs.length)) := upd_same
              have hF10 := hF9.tk tk10 (fun kvs h => by rw [upd_ne (Ne.symm nlf)]; exact h)
              have hvp10 := Paired.mapP hvp9 fun _ _ z => z.tk tk10
              have hbp10 := Paired.mapP hbp9 fun _ _ z => z.tk tk10
              generalize hG10 : upd G9' lk (.lst (lacV (lset L9 e9 (L9 e9 - 1)) cs.length)) = G10 at *
              have els : lset L9 e9 (L9 e9 - 1) e9 = L9 e9 - 1 := if_pos rfl
              refine ⟨_, rfl, _, rfl, lk, _, _, _, rfl, rfl, SqL.of hlk10, atI_nat (lacV_at hec), rfl, _, rfl, ?_⟩
              rw [els]
              by_cases h1 : L9 e9 = 1
              · have hb0 : decide (V.int (((L9 e9 - 1 : Nat)) : Int) = V.int 0) = true := decide_eq_true (by rw [h1]; rfl)
                rw [hb0]
                refine iteT ?_
                obtain ⟨pc, pb, ph, c1, c2, c3⟩ := hclH sm10 e9 hec
                refine ⟨_, rfl, .inl ⟨rfl, _, SqL.of hbs10⟩, _, rfl, x, D, dx, _, _, rfl, sm10 _ _ hx, c.cls, c.na _ (by simp), rfl, r, C, dr, _, _, rfl, sm10 _ _ hR.1, rc.cls, rc.na _ (by simp), rfl, _, rfl, ca, _, _, .ref pc, rfl, rfl, .of (sm10 _ _ hca), atI_nat (j := e9) (by rw [List.getElem?_map, c1]; rfl), pc, _, _, .ref ph, rfl, rfl, .of c2, atI_nat (j := 1) rfl, ?_⟩
                refine ⟨_, rfl, by show 2 ≤ sizeLine; decide, fun o2 no2 => ⟨_, rfl, _, _, rfl, rfl, by show 3 ≤ sizeLine; decide, fun t3 nt3 => ?_⟩⟩
                obtain ⟨wa, ss⟩ := WAX.mk (g := (true, e9)) (tn := tn + 1) (n := q0.1.2 + 1) (by omega) c3 no2 nt3
                have lb9 := Paired.len hbp9
                have tt9 := iv9.tt
                refine ⟨bh, _, _, rfl, rfl, ss _ _ hbs10, Nat.lt_of_le_of_lt (show bs9.length ≤ 62000 by omega) (by decide), ?_⟩
                have tk11 : TK (upd (upd G10 o2 (.tup [.str "clause", .int (e9 : Nat)])) t3 (.tup [.ref ph, .ref o2, .int (tn + 1)])) (upd (upd (upd G10 o2 (.tup [.str "clause", .int (e9 : Nat)])) t3 (.tup [.ref ph, .ref o2, .int (tn + 1)])) bh (.lst (bs9 ++ [.ref t3]))) := TK.upd (ss _ _ hbs10) (fun xs e => nomatch e)
                have tkA := TK.trans (.same ss) tk11
                refine ⟨_, lset L9 e9 (L9 e9 - 1), B9 ++ [((hd cs e9, q0.1.2 + 1), (true, e9))], rfl, same_put (sm10.trans ss) nbH, ?_, Paired.mapP hvp10 fun _ _ z => z.tk tkA, hF10.tk tkA (fun kvs h => ?_), WLX.snoc hbs10 hbp10 ss wa, ?_, ?_, ?_⟩
                · show (upd _ bh _) wl = _
                  rw [upd_ne (Ne.symm nbw)]; exact ss _ _ hvs10
                · show (upd _ bh _) fd = _
                  rw [upd_ne (Ne.symm nfb)]; exact ss _ _ h
                · show (upd _ bh _) lk = _
                  rw [upd_ne (Ne.symm nbk)]; exact ss _ _ hlk10
                · show (upd _ bh _) ua = _
                  rw [upd_ne nub]; exact ss _ _ hua10
                · rw [h1]
                  exact iv9.fire h1
              · have hb0 : decide (V.int (((L9 e9 - 1 : Nat)) : Int) = V.int 0) = false := decide_eq_false (fun z => by have := V.int.inj z; omega)
                rw [hb0]
                refine iteF ?_
                exact ⟨_, _, B9, rfl, sm10, hvs10, hvp10, hF10, ⟨bs9, hbs10, hbp10⟩, hlk10, hua10, (iv9.less h1).1⟩
            · rintro σ G9 ⟨y9, L9, B9, rfl, sm9, hvs9, hvp9, hF9, hB9, hlk9, hua9, iv9⟩
              have eus : (nI (us cs cs.length q0.1.1)).length = (us cs cs.length q0.1.1).length := by unfold nI; simp
              rw [eus, List.drop_length] at iv9
              exact ⟨_, _, _, _, Fw5 ++ [q0], L9, B9, q0.1.2, rfl, sm9, hvs9, hvp9, hF9, hB9, hlk9, iv9⟩
          · rintro σ G5 ⟨y6, y7, y8, y9, Fw5, L5, B5, cu5, rfl, sm5, hvs5, hvp5, hF5, hB5, hlk5, iv5⟩
            rw [hlen, List.drop_length] at iv5
            have hnz := iv5.nz
            refine ⟨_, rfl, _, ?_, bh, _, _, _, _, _, Fw5, B5, L5, cu5, rfl, sm5, hF5, hB5, hlk5, nbH, nbk, iv5.turn, rfl⟩
            rw [if_neg hne2]
            by_cases eb : B5 = []
            · rw [if_pos eb]; omega
            · rw [if_neg eb]
              have : 0 < B5.length := List.length_pos_iff.mpr eb
              omega
end
end L2.My
end
section
set_option Elab.async false
set_option linter.all false
set_option maxRecDepth 100000
set_option maxHeartbeats 4000000
namespace L2.My
open PySem PySem.Spec PyProof.Rows
/-! ### ascending: of ints, of facts -/
abbrev sAsc : Stmt := top 10
theorem lt_un {k : Nat} {A : Around} (r : Room k A) : A.units < cLine := by have := r.un; omega
def rLtIF : R2 := fun x y H Q => rI0 (fun i j => .bl (decide (i < j))) x y H Q ∨ rLtF x y H Q
theorem op_ltIF {X : Cx} (hu : X.A.units < cLine) : OpR X (compareOp .Lt) rLtIF := by
  intro pins s σ H x y v u Q I rx ry h
  rcases h with h | h
  · exact op_lt pins s σ H x y v u Q I rx ry h
  · exact op_ltF hu pins s σ H x y v u Q I rx ry h
/-- facts that ascend -/
def ascB : List Fc → Bool
  | [] => true
  | [_] => true
  | f :: g :: r => ltF f g && ascB (g :: r)
theorem ascB_all : ∀ (fs : List Fc), ((List.range (fs.length - 1)).map fun i => ltF (fs.getD i []) (fs.getD (i + 1) [])).all id = ascB fs
  | [] => rfl
  | [_] => rfl
  | f :: g :: r => by
    have ih := ascB_all (g :: r)
    have e : (f :: g :: r).length - 1 = ((g :: r).length - 1) + 1 := by simp
    rw [e, List.range_succ_eq_map, List.map_cons, List.all_cons, List.map_map]
    show (ltF f g && _) = (ltF f g && ascB (g :: r))
    rw [← ih]
    rfl
def spAsc : Sp := fun vs H Q _ => (∃ (a : Addr) (ns : List Int), vs = [.ref a] ∧ H a = some (.tup (ns.map V.int)) ∧ ns.length ≤ 1000 ∧ (∀ i x y, ns[i]? = some x → ns[i + 1]? = some y → x < y) ∧ ∀ H', Same H H' → Q (.bl true) H') ∨
  (∃ (a : Addr) (fs : List Fc), vs = [.ref a] ∧ FactsAt H a fs ∧ (∀ f ∈ fs, GF f) ∧ fs.length ≤ 10000 ∧ ∀ H', Same H H' → Q (.bl (ascB fs)) H')
theorem GF.shp {f : Fc} (h : GF f) : Shp f := by
  obtain ⟨z, is, e, _⟩ := h
  exact ⟨z, is, e⟩
section
variable {P : Program} {w : World} {K : PySem.W.Frag} {mg : Str → Option Value} {base : Heap}
theorem scAsc : FnScope ["things", "at"] ["things"] (defScope sAsc) := ⟨rfl, rfl, rfl, by decide +kernel, rfl, by decide +kernel, by decide +kernel⟩
theorem ok_asc {f : Addr} {fd : FuncData} {k : Nat} (F : Fun K "ascends" "ascends" sAsc f fd) (T : Tx mg) : FnOk P w K mg base CX0 (k + 1) f fd ["things"] spAsc := by
  refine F.ok scAsc (fun vs H Q E h => ?_) (fun cdv A outer s H vs Q E hr h => ?_)
  · rcases h with ⟨a, ns, rfl, _⟩ | ⟨a, ns, rfl, _⟩ <;> rfl
  · refine ⟨_, (pss_one (ps_ret (pe_callB (cr_all rfl) (by rfl) T.all_ (by decide +kernel) (pa_cons (pe_lc (own := [("at", 1)]) (g := gName 1) (te := tOp rLtIF (tOp (rIxT K) (tVar 0) (tVar 1)) (tOp (rIxT K) (tVar 0) (tOp (rI0 fun i j => .int (i + j)) (tVar 1) (tC (.int 1))))) rfl scAsc.nd (pi_range1 (by rfl) T.range_ (pa_cons (pe_op op_sub (pe_callB call_len_seq (by rfl) T.len_ PySem.boot_len (pa_cons (pv 0) pa_nil)) pe_int) pa_nil)) (blkOk_by (N := ["things", "at"]) (sc := defScope sAsc) (by decide +kernel)) (fun _ _ _ _ _ => pg_name (i := 1) scAsc.nd rfl (Or.inl rfl)) (fun _ _ _ _ _ => pts_nil) (fun _ _ _ _ _ => (pe_cmpR (op_ltIF (lt_un hr)) (pe_ix ix_tup (pv 0) (pv 1) (fun _ _ => rfl)) (pe_ix ix_tup (pv 0) (pe_op op_add (pv 1) pe_int) (fun _ _ => rfl)) (nomark _)))) pa_nil)))), ?_⟩
    rcases h with ⟨a, ns, rfl, ha, hl, hlt, q⟩ | ⟨a, fs, rfl, hfa, hg, hl, q⟩
    · refine ⟨_, rfl, a, _, rfl, .inr (.of ha), _, _, rfl, rfl, ?_⟩
      rw [List.length_map]
      refine ⟨_, rfl, by omega, by omega, fun D hD => ?_⟩
      have hn : ((ns.length : Nat) - 1 : Int).toNat = ns.length - 1 := by omega
      rw [hn]
      refine lcP (walk_range (lo := 0)) (fun i => V.bl true) (Nat.lt_of_le_of_lt (show ns.length - 1 ≤ 1000 by omega) (by decide)) hD (fun _ _ => trivial) ?_ ?_
      · rintro i y H3 H4 Q' hi sm ⟨rfl, rfl⟩ hq
        have e1 : ns[i]? = some ns[i] := List.getElem?_eq_getElem (by omega)
        have e2 : ns[i + 1]? = some ns[i + 1] := List.getElem?_eq_getElem (by omega)
        refine ⟨rfl, _, rfl, _, rfl, a, _, _, .int ns[i], rfl, rfl, .of (sm _ _ ha), ?_, ?_⟩
        · rw [Int.zero_add]; exact atI_nat (by rw [List.getElem?_map, e1]; rfl)
        refine ⟨_, rfl, _, rfl, _, _, rfl, rfl, a, _, _, .int ns[i + 1], rfl, rfl, .of (sm _ _ ha), ?_, .inl ⟨_, _, rfl, rfl, ?_⟩⟩
        · rw [Int.zero_add]; exact atI_nat (j := i + 1) (by rw [List.getElem?_map, e2]; rfl)
        show Q' (V.bl (decide (ns[i] < ns[i + 1]))) H4
        rw [decide_eq_true (hlt i _ _ e1 e2)]
        exact hq _ (Same.refl _)
      · intro H' sm hd
        refine ⟨D, (List.range (ns.length - 1)).map fun _ => true, rfl, .inl (.inl (by rw [hd, List.map_map]; rfl)), ?_⟩
        rw [all_tt]
        exact q _ sm
    · obtain ⟨as, ha, hp⟩ := id hfa
      have le := Paired.len hp
      refine ⟨_, rfl, a, _, rfl, .inr (.of ha), _, _, rfl, rfl, ?_⟩
      rw [List.length_map, le]
      refine ⟨_, rfl, by omega, by omega, fun D hD => ?_⟩
      have hn : ((fs.length : Nat) - 1 : Int).toNat = fs.length - 1 := by omega
      rw [hn]
      refine lcP (walk_range (lo := 0)) (fun i => V.bl (ltF (fs.getD i []) (fs.getD (i + 1) []))) (Nat.lt_of_le_of_lt (show fs.length - 1 ≤ 10000 by omega) (by decide)) hD (fun _ _ => trivial) ?_ ?_
      · rintro i y H3 H4 Q' hi sm ⟨rfl, rfl⟩ hq
        have e1 : as[i]? = some as[i] := List.getElem?_eq_getElem (by omega)
        have e2 : as[i + 1]? = some as[i + 1] := List.getElem?_eq_getElem (by omega)
        obtain ⟨f1, g1, r1⟩ := Paired.at' hp e1
        obtain ⟨f2, g2, r2⟩ := Paired.at' hp e2
        refine ⟨rfl, _, rfl, _, rfl, a, _, _, .ref as[i], rfl, rfl, .of (sm _ _ ha), ?_, ?_⟩
        · rw [Int.zero_add]; exact atI_nat (by rw [List.getElem?_map, e1]; rfl)
        refine ⟨_, rfl, _, rfl, _, _, rfl, rfl, a, _, _, .ref as[i + 1], rfl, rfl, .of (sm _ _ ha), ?_, .inr ⟨_, _, f1, f2, rfl, rfl, sm _ _ r1, sm _ _ r2, (hg _ (List.mem_of_getElem? g1)).shp, (hg _ (List.mem_of_getElem? g2)).shp, ?_⟩⟩
        · rw [Int.zero_add]; exact atI_nat (j := i + 1) (by rw [List.getElem?_map, e2]; rfl)
        have z1 : fs.getD i [] = f1 := by rw [List.getD_eq_getElem?_getD, g1]; rfl
        have z2 : fs.getD (i + 1) [] = f2 := by rw [List.getD_eq_getElem?_getD, g2]; rfl
        rw [z1, z2] at hq
        exact hq _ (Same.refl _)
      · intro H' sm hd
        refine ⟨D, (List.range (fs.length - 1)).map fun i => ltF (fs.getD i []) (fs.getD (i + 1) []), rfl, .inl (.inl (by rw [hd, List.map_map]; rfl)), ?_⟩
        rw [ascB_all]
        exact q _ sm
end
end L2.My
end
section
set_option Elab.async false
set_option linter.all false
set_option maxRecDepth 100000
set_option maxHeartbeats 4000000
namespace L2.My
open PySem PySem.Spec PyProof.Rows
abbrev sBelow : Stmt := top 6
abbrev sWord : Stmt := top 9
abbrev sFact : Stmt := top 18
abbrev sTupOf : Stmt := top 19
abbrev sFacts : Stmt := top 20
abbrev sClause : Stmt := top 21
/-! ### things of any kind: seen as deep as one likes, none the hand at b -/
def Sh0 (b : Addr) (H : Hp) (v : V) : Prop := (∃ t, ThT H v t) ∧ v ≠ .ref b ∧ ∀ z, v = .str z → z.length ≤ 5000
def Sh (b : Addr) (H : Hp) : Nat → V → Prop
  | 0, v => Sh0 b H v
  | n + 1, v => Sh0 b H v ∧ ∀ a xs, v = .ref a → H a = some (.tup xs) → xs.length ≤ 5000 ∧ ∀ x ∈ xs, Sh b H n x
def Thg (b : Addr) (H : Hp) (v : V) : Prop := ∀ n, Sh b H n v
theorem ThT.stay {b : Addr} {H H' : Hp} {v : V} {t : String} (h : ThT H v t) (n : v ≠ .ref b) (s : BL [b] H H') : ThT H' v t := by
  cases h with
  | non => exact .non
  | bl c => exact .bl c
  | int i => exact .int i
  | str x => exact .str x
  | lst h => exact .lst (s _ _ (by simpa using fun e => n (by rw [e])) h)
  | tup h => exact .tup (s _ _ (by simpa using fun e => n (by rw [e])) h)
  | dct h => exact .dct (s _ _ (by simpa using fun e => n (by rw [e])) h)
theorem Sh0.bl {b : Addr} {H H' : Hp} {v : V} (h : Sh0 b H v) (s : BL [b] H H') : Sh0 b H' v := by
  obtain ⟨⟨t, h1⟩, h2, h3⟩ := h
  exact ⟨⟨t, h1.stay h2 s⟩, h2, h3⟩
theorem ThT.back {b : Addr} {H H' : Hp} {a : Addr} {t : String} (h : ThT H (.ref a) t) (n : V.ref a ≠ .ref b) (s : BL [b] H H') {xs : List V} (e : H' a = some (.tup xs)) : H a = some (.tup xs) := by
  have nb : a ∉ [b] := by simpa using fun e => n (by rw [e])
  cases h with
  | lst h => rw [s _ _ nb h] at e; cases e
  | tup h => rw [s _ _ nb h] at e; cases e; exact h
  | dct h => rw [s _ _ nb h] at e; cases e
theorem Sh.bl {b : Addr} {H H' : Hp} (s : BL [b] H H') : ∀ {n : Nat} {v : V}, Sh b H n v → Sh b H' n v
  | 0, v, h => Sh0.bl h s
  | n + 1, v, h => by
    refine ⟨h.1.bl s, fun a xs e ea => ?_⟩
    subst e
    obtain ⟨⟨t, h1⟩, h2, _⟩ := h.1
    obtain ⟨q1, q2⟩ := h.2 a xs rfl (h1.back h2 s ea)
    exact ⟨q1, fun x hx => Sh.bl s (q2 x hx)⟩
theorem Thg.bl {b : Addr} {H H' : Hp} {v : V} (h : Thg b H v) (s : BL [b] H H') : Thg b H' v := fun n => (h n).bl s
theorem Thg.same {b : Addr} {H H' : Hp} {v : V} (h : Thg b H v) (s : Same H H') : Thg b H' v := h.bl (.same s)
theorem Thg.th {b : Addr} {H : Hp} {v : V} (h : Thg b H v) : ∃ t, ThT H v t := (h 0).1
theorem Thg.len {b : Addr} {H : Hp} {z : Str} (h : Thg b H (.str z)) : z.length ≤ 5000 := (h 0).2.2 z rfl
theorem Thg.sub {b a : Addr} {H : Hp} {xs : List V} (h : Thg b H (.ref a)) (e : H a = some (.tup xs)) : xs.length ≤ 5000 ∧ ∀ x ∈ xs, Thg b H x := ⟨((h 1).2 a xs rfl e).1, fun x hx n => ((h (n + 1)).2 a xs rfl e).2 x hx⟩
theorem Thg.tup {b a : Addr} {H : Hp} {xs : List V} (e : H a = some (.tup xs)) (n : a ≠ b) (hl : xs.length ≤ 5000) (h : ∀ x ∈ xs, Thg b H x) : Thg b H (.ref a) := by
  have h0 : Sh0 b H (.ref a) := ⟨⟨_, .tup e⟩, fun z => n (V.ref.inj z), fun z q => nomatch q⟩
  intro k
  cases k with
  | zero => exact h0
  | succ k =>
    refine ⟨h0, fun a' ys q e' => ?_⟩
    cases q
    rw [e] at e'
    cases e'
    exact ⟨hl, fun x hx => h x hx k⟩
theorem Thg.lst {b a : Addr} {H : Hp} {xs : List V} (e : H a = some (.lst xs)) (n : a ≠ b) : Thg b H (.ref a) := by
  have h0 : Sh0 b H (.ref a) := ⟨⟨_, .lst e⟩, fun z => n (V.ref.inj z), fun z q => nomatch q⟩
  intro k
  cases k with
  | zero => exact h0
  | succ k =>
    refine ⟨h0, fun a' ys q e' => ?_⟩
    cases q
    rw [e] at e'
    cases e'
theorem Thg.dct {b a : Addr} {H : Hp} {kvs : List (Key × V)} (e : H a = some (.dK kvs)) (n : a ≠ b) : Thg b H (.ref a) := by
  have h0 : Sh0 b H (.ref a) := ⟨⟨_, .dct e⟩, fun z => n (V.ref.inj z), fun z q => nomatch q⟩
  intro k
  cases k with
  | zero => exact h0
  | succ k =>
    refine ⟨h0, fun a' ys q e' => ?_⟩
    cases q
    rw [e] at e'
    cases e'
theorem thg_flat {b : Addr} {H : Hp} {v : V} (h0 : Sh0 b H v) (h : ∀ a, v ≠ .ref a) : Thg b H v := by
  intro k
  cases k with
  | zero => exact h0
  | succ k => exact ⟨h0, fun a xs e _ => absurd e (h a)⟩
theorem Thg.non {b : Addr} {H : Hp} : Thg b H .non := thg_flat ⟨⟨_, .non⟩, (fun z => nomatch z), fun z q => nomatch q⟩ fun a z => nomatch z
theorem Thg.int {b : Addr} {H : Hp} (i : Int) : Thg b H (.int i) := thg_flat ⟨⟨_, .int i⟩, (fun z => nomatch z), fun z q => nomatch q⟩ fun a z => nomatch z
theorem Thg.boo {b : Addr} {H : Hp} (i : Bool) : Thg b H (.bl i) := thg_flat ⟨⟨_, .bl i⟩, (fun z => nomatch z), fun z q => nomatch q⟩ fun a z => nomatch z
theorem Thg.str {b : Addr} {H : Hp} (z : Str) (h : z.length ≤ 5000) : Thg b H (.str z) := thg_flat ⟨⟨_, .str z⟩, (fun z => nomatch z), fun y q => by cases q; exact h⟩ fun a z => nomatch z
/-! ### the verdicts, read off the heap -/
def tupO : Option HO → Option (List V)
  | some (.tup xs) => some xs
  | _ => none
def tupOf (H : Hp) : V → Option (List V)
  | .ref a => tupO (H a)
  | _ => none
def signB (c : Nat) : Bool := decide (97 ≤ c) && decide (c ≤ 122)
def wordB (z : Str) : Bool := decide (1 ≤ z.length) && (decide (z.length ≤ 12) && z.cps.toList.all signB)
def wordV : V → Bool
  | .str z => wordB z
  | _ => false
def big : Int := 1000000000000
def factB (H : Hp) (v : V) : Bool := match tupOf H v with
  | some (x :: xs) => decide (xs.length ≤ 4) && (wordV x && xs.all (belowV 1000000000000))
  | _ => false
def tupB (H : Hp) (n : Nat) (v : V) : Bool := match tupOf H v with
  | some xs => decide (xs.length ≤ n)
  | none => false
def factsB (H : Hp) (n : Nat) (v : V) : Bool := match tupOf H v with
  | some xs => decide (xs.length ≤ n) && xs.all (factB H)
  | none => false
def clauseB (H : Hp) (v : V) : Bool := match tupOf H v with
  | some [b, h] => factsB H 4 b && factB H h
  | _ => false
theorem tupOf_at {H : Hp} {a : Addr} {xs : List V} (h : H a = some (.tup xs)) : tupOf H (.ref a) = some xs := by
  show tupO (H a) = _
  rw [h]
  rfl
theorem tupOf_lst {H : Hp} {a : Addr} {xs : List V} (h : H a = some (.lst xs)) : tupOf H (.ref a) = none := by
  show tupO (H a) = _
  rw [h]
  rfl
theorem tupOf_dct {H : Hp} {a : Addr} {xs : List (Key × V)} (h : H a = some (.dK xs)) : tupOf H (.ref a) = none := by
  show tupO (H a) = _
  rw [h]
  rfl
theorem tup_cases {H : Hp} {v : V} {t : String} (h : ThT H v t) : (∃ a xs, v = .ref a ∧ H a = some (.tup xs) ∧ tupOf H v = some xs ∧ t = "tuple") ∨ (tupOf H v = none ∧ instT t "tuple" = false) := by
  cases h with
  | non => exact .inr ⟨rfl, by decide⟩
  | bl c => exact .inr ⟨rfl, by decide⟩
  | int i => exact .inr ⟨rfl, by decide⟩
  | str x => exact .inr ⟨rfl, by decide⟩
  | lst h => exact .inr ⟨tupOf_lst h, by decide⟩
  | tup h => exact .inl ⟨_, _, rfl, h, tupOf_at h, rfl⟩
  | dct h => exact .inr ⟨tupOf_dct h, by decide⟩
theorem str_cases {H : Hp} {v : V} {t : String} (h : ThT H v t) : (∃ z, v = .str z ∧ t = "str") ∨ (wordV v = false ∧ instT t "str" = false) := by
  cases h with
  | str x => exact .inl ⟨x, rfl, rfl⟩
  | _ => exact .inr ⟨rfl, by decide⟩
theorem int_cases {H : Hp} {v : V} {t : String} {n : Int} (h : ThT H v t) : (∃ i, v = .int i ∧ t = "int") ∨ (∃ c, v = .bl c ∧ t = "bool") ∨ (belowV n v = false ∧ instT t "int" = false) := by
  cases h with
  | int i => exact .inl ⟨i, rfl, rfl⟩
  | bl c => exact .inr (.inl ⟨c, rfl, rfl⟩)
  | _ => exact .inr (.inr ⟨rfl, by decide⟩)
theorem tupOf_bl {b : Addr} {H H' : Hp} {v : V} (h : Thg b H v) (s : BL [b] H H') : tupOf H' v = tupOf H v := by
  obtain ⟨⟨t, h1⟩, h2, _⟩ := h 0
  cases h1 with
  | non => rfl
  | bl c => rfl
  | int i => rfl
  | str x => rfl
  | lst h' =>
    have e := s _ _ (by simpa using fun e => h2 (by rw [e])) h'
    rw [tupOf_lst h', tupOf_lst e]
  | tup h' =>
    have e := s _ _ (by simpa using fun e => h2 (by rw [e])) h'
    rw [tupOf_at h', tupOf_at e]
  | dct h' =>
    have e := s _ _ (by simpa using fun e => h2 (by rw [e])) h'
    rw [tupOf_dct h', tupOf_dct e]
theorem tupOf_sub {b : Addr} {H : Hp} {v : V} {xs : List V} (h : Thg b H v) (e : tupOf H v = some xs) : ∃ a, v = .ref a ∧ H a = some (.tup xs) ∧ xs.length ≤ 5000 ∧ ∀ x ∈ xs, Thg b H x := by
  obtain ⟨t, ht⟩ := h.th
  rcases tup_cases ht with ⟨a, ys, rfl, h1, h2, _⟩ | ⟨h1, _⟩
  · rw [h2] at e
    cases e
    obtain ⟨q1, q2⟩ := h.sub h1
    exact ⟨a, rfl, h1, q1, q2⟩
  · rw [h1] at e; cases e
theorem factB_bl {b : Addr} {H H' : Hp} {v : V} (h : Thg b H v) (s : BL [b] H H') : factB H' v = factB H v := by
  unfold factB
  rw [tupOf_bl h s]
theorem all_congr {α : Type} {p q : α → Bool} : ∀ {xs : List α}, (∀ x ∈ xs, p x = q x) → xs.all p = xs.all q
  | [], _ => rfl
  | x :: r, h => by
    rw [List.all_cons, List.all_cons, h x List.mem_cons_self, all_congr fun y hy => h y (List.mem_cons_of_mem _ hy)]
theorem factsB_bl {b : Addr} {H H' : Hp} {v : V} {n : Nat} (h : Thg b H v) (s : BL [b] H H') : factsB H' n v = factsB H n v := by
  unfold factsB
  rw [tupOf_bl h s]
  cases e : tupOf H v with
  | none => rfl
  | some xs =>
    obtain ⟨a, _, _, _, q⟩ := tupOf_sub h e
    show (_ && xs.all (factB H')) = (_ && xs.all (factB H))
    rw [all_congr fun x hx => factB_bl (q x hx) s]
theorem clauseB_bl {b : Addr} {H H' : Hp} {v : V} (h : Thg b H v) (s : BL [b] H H') : clauseB H' v = clauseB H v := by
  unfold clauseB
  rw [tupOf_bl h s]
  cases e : tupOf H v with
  | none => rfl
  | some xs =>
    obtain ⟨a, _, _, _, q⟩ := tupOf_sub h e
    match xs, q with
    | [], _ => rfl
    | [x], _ => rfl
    | [x, y], q =>
      show (factsB H' 4 x && factB H' y) = (factsB H 4 x && factB H y)
      rw [factsB_bl (q x (by simp)) s, factB_bl (q y (by simp)) s]
    | x :: y :: z :: r, _ => rfl
theorem range_all {α : Type} (p : α → Bool) (d : α) (xs : List α) : ((List.range xs.length).map fun i => p (xs.getD i d)).all id = xs.all p := by
  rw [List.all_map]
  induction xs with
  | nil => rfl
  | cons x r ih =>
    rw [List.length_cons, List.range_succ_eq_map, List.all_cons, List.all_cons, List.all_map]
    rw [← ih]
    rfl
/-! ### the judges -/
def spBelow : Sp := fun vs H Q _ => ∃ (b : Addr) (n : Int) (v : V), vs = [.int n, v] ∧ Thg b H v ∧ Q (.bl (belowV n v)) H
def spWord : Sp := fun vs H Q _ => ∃ (b : Addr) (v : V), vs = [v] ∧ Thg b H v ∧ ∀ H', Same H H' → Q (.bl (wordV v)) H'
def spFact : Sp := fun vs H Q _ => ∃ (b : Addr) (v : V), vs = [v] ∧ Thg b H v ∧ ∀ H', Same H H' → Q (.bl (factB H v)) H'
def spTupOf : Sp := fun vs H Q _ => ∃ (b : Addr) (n : Nat) (v : V), vs = [.int (n : Int), v] ∧ Thg b H v ∧ Q (.bl (tupB H n v)) H
def spFacts : Sp := fun vs H Q _ => ∃ (b : Addr) (n : Nat) (v : V), vs = [.int (n : Int), v] ∧ Thg b H v ∧ ∀ H', Same H H' → Q (.bl (factsB H n v)) H'
def spClause : Sp := fun vs H Q _ => ∃ (b : Addr) (v : V), vs = [v] ∧ Thg b H v ∧ ∀ H', Same H H' → Q (.bl (clauseB H v)) H'
section
variable {P : Program} {w : World} {K : PySem.W.Frag} {mg : Str → Option Value} {base : Heap}
theorem scBelow : FnScope ["bound", "thing"] ["bound", "thing"] (defScope sBelow) := ⟨rfl, rfl, rfl, by decide +kernel, rfl, by decide +kernel, by decide +kernel⟩
theorem ok_below {f : Addr} {fd : FuncData} {k : Nat} (F : Fun K "is_below" "is_below" sBelow f fd) (T : Tx mg) : FnOk P w K mg base CX0 (k + 1) f fd ["bound", "thing"] spBelow := by
  refine F.ok scBelow (fun vs H Q E h => ?_) (fun cdv A outer s H vs Q E hr h => ?_)
  · obtain ⟨b, n, v, rfl, _⟩ := h
    rfl
  · obtain ⟨b, n, v, rfl, hv, q⟩ := h
    obtain ⟨t, ht⟩ := hv.th
    refine ⟨_, (pss_cons (ps_if (pt_or (pt_not (pt_val (pe_callB call_isTh (by rfl) T.isi (by decide +kernel) (pa_cons (pv 1) (pa_cons (pe_bltn (v := .ty "int") (u := .type "int") (by rfl) T.int_ (by decide +kernel) rfl) pa_nil))))) (pw_or1 (pt_val (pe_callB call_isTh (by rfl) T.isi (by decide +kernel) (pa_cons (pv 1) (pa_cons (pe_bltn (v := .ty "bool") (u := .type "bool") (by rfl) T.bool_ (by decide +kernel) rfl) pa_nil)))))) (pss_one (ps_ret pe_bl)) pss_nil) (pss_one (ps_ret (pe_chain op_le op_lt pe_int (pv 1) (pv 0))))), ?_⟩
    refine ⟨_, rfl, _, "int", t, rfl, ht, by decide, _, rfl, ?_⟩
    rcases int_cases (n := n) ht with ⟨i, rfl, rfl⟩ | ⟨c, rfl, rfl⟩ | ⟨e1, e2⟩
    · refine iteF ⟨_, rfl, _, "bool", _, rfl, .int i, by decide, _, rfl, iteF ?_⟩
      refine ⟨_, rfl, _, _, rfl, rfl, _, rfl, ?_⟩
      by_cases h0 : 0 ≤ i
      · rw [decide_eq_true h0]
        refine iteT ⟨_, rfl, _, _, rfl, rfl, ?_⟩
        have e : belowV n (.int i) = decide (i < n) := by
          show decide (0 ≤ i ∧ i < n) = _
          simp [h0]
        rw [e] at q
        exact q
      · rw [decide_eq_false h0]
        refine iteF ?_
        have e : belowV n (.int i) = false := decide_eq_false fun z => h0 z.1
        rw [e] at q
        exact q
    · exact iteF ⟨_, rfl, _, "bool", _, rfl, .bl c, by decide, _, rfl, iteT q⟩
    · rw [e2]
      rw [e1] at q
      exact iteT q
theorem scWord : FnScope ["thing", "sign"] ["thing"] (defScope sWord) := ⟨rfl, rfl, rfl, by decide +kernel, rfl, by decide +kernel, by decide +kernel⟩
theorem ok_word {f : Addr} {fd : FuncData} {k : Nat} (F : Fun K "is_word" "is_word" sWord f fd) (T : Tx mg) : FnOk P w K mg base CX0 (k + 1) f fd ["thing"] spWord := by
  obtain ⟨tm, hm⟩ := T.ml
  refine F.ok scWord (fun vs H Q E h => ?_) (fun cdv A outer s H vs Q E hr h => ?_)
  · obtain ⟨b, v, rfl, _⟩ := h
    rfl
  · obtain ⟨b, v, rfl, hv, q⟩ := h
    obtain ⟨t, ht⟩ := hv.th
    refine ⟨_, (pss_cons (ps_if (pt_or (pt_not (pt_val (pe_callB call_isTh (by rfl) T.isi (by decide +kernel) (pa_cons (pv 0) (pa_cons (pe_bltn (v := .ty "str") (u := .type "str") (by rfl) T.str_ (by decide +kernel) rfl) pa_nil))))) (pw_or1 (pt_not (pt_chain op_le op_le pe_int (pe_callB call_len_str (by rfl) T.len_ PySem.boot_len (pa_cons (pv 0) pa_nil)) (pe_glob (v := .int 12) (by rfl) hm ⟨_, rfl⟩))))) (pss_one (ps_ret pe_bl)) pss_nil) (pss_one (ps_ret (pe_callB (cr_all rfl) (by rfl) T.all_ (by decide +kernel) (pa_cons (pe_lc (own := [("sign", 1)]) (g := gName 1) rfl scWord.nd (pi_str (pv 0)) (blkOk_by (N := ["thing", "sign"]) (sc := defScope sWord) (by decide +kernel)) (fun _ _ _ _ _ => pg_name (i := 1) scWord.nd rfl (Or.inl rfl)) (fun _ _ _ _ _ => pts_nil) (fun _ _ _ _ _ => (pe_chain op_le_str op_le_str pe_str (pv 1) pe_str))) pa_nil))))), ?_⟩
    refine ⟨_, rfl, _, "str", t, rfl, ht, by decide, _, rfl, ?_⟩
    rcases str_cases ht with ⟨z, rfl, rfl⟩ | ⟨e1, e2⟩
    · have ls : z.length ≤ sizeLine := Nat.le_trans hv.len (by decide)
      refine iteF ⟨_, rfl, z, rfl, ls, _, _, rfl, rfl, _, rfl, ?_⟩
      by_cases h1 : 1 ≤ z.length
      · rw [decide_eq_true (by omega)]
        refine iteT ⟨_, _, rfl, rfl, _, rfl, ?_⟩
        by_cases h2 : z.length ≤ 12
        · rw [decide_eq_true (by omega)]
          refine iteF ?_
          refine ⟨_, rfl, _, rfl, fun D hD => ?_⟩
          refine lcP walk_str (fun i => V.bl (signB (z.cps.toList.getD i 0))) (Nat.lt_of_le_of_lt (show z.cps.size ≤ 12 from h2) (by decide)) hD (fun _ _ => trivial) ?_ ?_
          · rintro i y H1 H2 Q' hi sm ⟨rfl, c, hc, rfl⟩ hq
            have hcm : z.cps.toList.getD i 0 = c := by
              rw [← Array.getElem?_toList] at hc
              rw [List.getD_eq_getElem?_getD, hc]
              rfl
            rw [hcm] at hq
            have e1 : (⟨#[c]⟩ : Str).cps.toList = [c] := rfl
            have e2 : (("a" : Str).cps.toList) = [97] := by decide +kernel
            have e3 : (("z" : Str).cps.toList) = [122] := by decide +kernel
            refine ⟨rfl, _, rfl, _, _, rfl, rfl, _, rfl, ?_⟩
            rw [e1, e2, lt1]
            by_cases c1 : 97 ≤ c
            · rw [decide_eq_false (show ¬ c < 97 by omega)]
              refine iteT ⟨_, _, rfl, rfl, ?_⟩
              rw [e1, e3, lt1]
              have e : signB c = !decide (122 < c) := by
                unfold signB
                rw [decide_eq_true c1, Bool.true_and]
                by_cases c2 : c ≤ 122
                · rw [decide_eq_true c2, decide_eq_false (by omega)]; rfl
                · rw [decide_eq_false c2, decide_eq_true (by omega)]; rfl
              rw [e] at hq
              exact hq _ (Same.refl _)
            · rw [decide_eq_true (show c < 97 by omega)]
              have e : signB c = false := by
                unfold signB
                rw [decide_eq_false c1]; rfl
              rw [e] at hq
              exact iteF (hq _ (Same.refl _))
          · intro H' sm hd
            refine ⟨D, (List.range z.cps.size).map fun i => signB (z.cps.toList.getD i 0), rfl, .inl (.inl (by rw [hd, List.map_map]; rfl)), ?_⟩
            have e := range_all signB 0 z.cps.toList
            rw [Array.length_toList] at e
            rw [e]
            have e4 : wordV (.str z) = z.cps.toList.all signB := by
              show wordB z = _
              unfold wordB
              rw [decide_eq_true h1, decide_eq_true h2]
              rfl
            rw [e4] at q
            exact q _ sm
        · rw [decide_eq_false (by omega)]
          have e4 : wordV (.str z) = false := by
            show wordB z = _
            unfold wordB
            rw [decide_eq_false h2]
            simp
          rw [e4] at q
          exact iteT (q _ (Same.refl _))
      · rw [decide_eq_false (by omega)]
        have e4 : wordV (.str z) = false := by
          show wordB z = _
          unfold wordB
          rw [decide_eq_false h1]
          rfl
        rw [e4] at q
        exact iteF ⟨_, rfl, iteT (q _ (Same.refl _))⟩
    · rw [e2]
      rw [e1] at q
      exact iteT (q _ (Same.refl _))
end
end L2.My
end
section
set_option Elab.async false
set_option linter.all false
set_option maxRecDepth 100000
set_option maxHeartbeats 4000000
namespace L2.My
open PySem PySem.Spec PyProof.Rows
theorem tupB_at {H : Hp} {v : V} {xs : List V} {n : Nat} (h : tupOf H v = some xs) : tupB H n v = decide (xs.length ≤ n) := by unfold tupB; rw [h]
theorem tupB_no {H : Hp} {v : V} {n : Nat} (h : tupOf H v = none) : tupB H n v = false := by unfold tupB; rw [h]
theorem factsB_at {H : Hp} {v : V} {xs : List V} {n : Nat} (h : tupOf H v = some xs) : factsB H n v = (decide (xs.length ≤ n) && xs.all (factB H)) := by unfold factsB; rw [h]
theorem factsB_no {H : Hp} {v : V} {n : Nat} (h : tupOf H v = none) : factsB H n v = false := by unfold factsB; rw [h]
theorem factB_no {H : Hp} {v : V} (h : tupOf H v = none) : factB H v = false := by unfold factB; rw [h]
theorem factB_nil {H : Hp} {v : V} (h : tupOf H v = some []) : factB H v = false := by unfold factB; rw [h]
theorem factB_at {H : Hp} {v x : V} {xs : List V} (h : tupOf H v = some (x :: xs)) : factB H v = (decide (xs.length ≤ 4) && (wordV x && xs.all (belowV 1000000000000))) := by unfold factB; rw [h]
theorem clauseB_no {H : Hp} {v : V} (h : tupOf H v = none) : clauseB H v = false := by unfold clauseB; rw [h]
theorem clauseB_at {H : Hp} {v x y : V} (h : tupOf H v = some [x, y]) : clauseB H v = (factsB H 4 x && factB H y) := by unfold clauseB; rw [h]
theorem clauseB_len {H : Hp} {v : V} {xs : List V} (h : tupOf H v = some xs) (n : xs.length ≠ 2) : clauseB H v = false := by
  unfold clauseB
  rw [h]
  match xs, n with
  | [], _ => rfl
  | [_], _ => rfl
  | [_, _], n => exact absurd rfl n
  | _ :: _ :: _ :: _, _ => rfl
theorem cutTail {x : V} {xs : List V} : cutV (x :: xs) (some 1) none = xs := by
  unfold cutV
  rw [HT.sIx_none, sIx1, List.length_cons]
  rw [show min 1 (xs.length + 1) = 1 by omega]
  simp only [List.drop_succ_cons, List.drop_zero, Nat.add_sub_cancel]
  exact List.take_of_length_le (Nat.le_refl _)
section
variable {P : Program} {w : World} {K : PySem.W.Frag} {mg : Str → Option Value} {base : Heap}
theorem scFact : FnScope ["thing", "number"] ["thing"] (defScope sFact) := ⟨rfl, rfl, rfl, by decide +kernel, rfl, by decide +kernel, by decide +kernel⟩
theorem ok_fact {f : Addr} {fd : FuncData} {k : Nat} (F : Fun K "is_fact" "is_fact" sFact f fd) (T : Tx mg) (cB : Cal P w K mg base (k + 1) "is_below" ["bound", "thing"] spBelow) (cW : Cal P w K mg base (k + 1) "is_word" ["thing"] spWord) : FnOk P w K mg base CX0 (k + 2) f fd ["thing"] spFact := by
  obtain ⟨tm, hm⟩ := T.mn
  obtain ⟨tb, hb⟩ := T.nb
  refine F.ok scFact (fun vs H Q E h => ?_) (fun cdv A outer s H vs Q E hr h => ?_)
  · obtain ⟨b, v, rfl, _⟩ := h
    rfl
  · obtain ⟨b, v, rfl, hv, q⟩ := h
    obtain ⟨t, ht⟩ := hv.th
    refine ⟨_, (pss_cons (ps_if (pt_or (pt_not (pt_val (pe_callB call_isTh (by rfl) T.isi (by decide +kernel) (pa_cons (pv 0) (pa_cons (pe_bltn (v := .ty "tuple") (u := .type "tuple") (by rfl) T.tuple_ (by decide +kernel) rfl) pa_nil))))) (pw_or1 (pt_not (pt_chain op_le op_le pe_int (pe_callB call_len_seq (by rfl) T.len_ PySem.boot_len (pa_cons (pv 0) pa_nil)) (pe_op op_add pe_int (pe_glob (v := .int 4) (by rfl) hm ⟨_, rfl⟩)))))) (pss_one (ps_ret pe_bl)) pss_nil) (pss_one (ps_ret (pe_and (pe_c cW hr (by omega) (by rfl) (pa_cons (pe_ix ix_tup (pv 0) pe_int (fun _ _ => rfl)) pa_nil)) (pe_one (pe_callB (cr_all rfl) (by rfl) T.all_ (by decide +kernel) (pa_cons (pe_lc (own := [("number", 1)]) (g := gName 1) (te := tCall spBelow [] E0 (tCons (tC (.int 1000000000000)) (tCons (tVar 1) tNil))) rfl scFact.nd (pi_tup (pe_slice sl_tup (pv 0) (po_some pe_int) po_none)) (blkOk_by (N := ["thing", "number"]) (sc := defScope sFact) (by decide +kernel)) (fun _ _ _ _ _ => pg_name (i := 1) scFact.nd rfl (Or.inl rfl)) (fun _ _ _ _ _ => pts_nil) (fun _ _ _ _ _ => (pe_c cB hr (by omega) (by rfl) (pa_cons (pe_glob (v := .int 1000000000000) (by rfl) hb ⟨_, rfl⟩) (pa_cons (pv 1) pa_nil))))) pa_nil))))))), ?_⟩
    refine ⟨_, rfl, _, "tuple", t, rfl, ht, by decide, _, rfl, ?_⟩
    rcases tup_cases ht with ⟨a, ys, rfl, ha, et, rfl⟩ | ⟨e1, e2⟩
    · obtain ⟨hl, hs⟩ := hv.sub ha
      refine iteF ⟨_, rfl, _, _, rfl, .inr (.of ha), _, _, rfl, rfl, _, rfl, ?_⟩
      cases ys with
      | nil =>
        rw [factB_nil et] at q
        rw [decide_eq_false (by simp)]
        exact iteF ⟨_, rfl, iteT (q _ (Same.refl _))⟩
      | cons x xs =>
        rw [decide_eq_true (by simp only [List.length_cons]; omega)]
        refine iteT ⟨_, _, rfl, rfl, _, _, rfl, rfl, _, rfl, ?_⟩
        rw [factB_at et] at q
        by_cases h4 : xs.length ≤ 4
        · rw [decide_eq_true (by simp only [List.length_cons]; omega)]
          rw [decide_eq_true h4, Bool.true_and] at q
          refine iteF ?_
          refine ⟨_, rfl, a, _, _, x, rfl, rfl, .of ha, atI_nat (j := 0) rfl, ?_⟩
          refine ⟨b, x, rfl, hs x (by simp), fun H1 s1 => ⟨_, rfl, ?_⟩⟩
          cases hw : wordV x with
          | false =>
            rw [hw] at q
            exact iteF (q _ s1)
          | true =>
            rw [hw, Bool.true_and] at q
            refine iteT ?_
            refine ⟨_, rfl, _, rfl, a, _, rfl, .of (s1 _ _ ha), ?_, fun p np => ?_⟩
            · intro hh
              have := hh.1
              rw [sIx1, List.length_cons] at this
              omega
            · rw [cutTail]
              have s2 : Same H1 (upd H1 p (.tup xs)) := same_upd np
              refine ⟨p, rfl, ⟨_, .of upd_same⟩, fun D hD => ?_⟩
              refine lcP walk_tup (fun i => V.bl (belowV 1000000000000 (xs.getD i .non))) (Nat.lt_of_le_of_lt h4 (by decide)) hD (fun _ sm => seqT sm (.of upd_same)) ?_ ?_
              · rintro i y H3 H4 Q' hi' sm ⟨rfl, hy⟩ hq
                have ey : xs.getD i .non = y := by rw [List.getD_eq_getElem?_getD, hy]; rfl
                rw [ey] at hq
                have hy2 : y ∈ x :: xs := List.mem_cons_of_mem _ (List.mem_of_getElem? hy)
                exact ⟨rfl, _, rfl, b, _, y, rfl, (hs y hy2).same (s1.trans (s2.trans sm)), hq _ (Same.refl _)⟩
              · intro H' sm hd
                refine ⟨D, (List.range xs.length).map fun i => belowV 1000000000000 (xs.getD i .non), rfl, .inl (.inl (by rw [hd, List.map_map]; rfl)), ?_⟩
                rw [range_all (belowV 1000000000000) V.non xs]
                exact q _ (s1.trans (s2.trans sm))
        · rw [decide_eq_false (by simp only [List.length_cons]; omega)]
          rw [decide_eq_false h4, Bool.false_and] at q
          exact iteT (q _ (Same.refl _))
    · rw [e2]
      rw [factB_no e1] at q
      exact iteT (q _ (Same.refl _))
theorem scTupOf : FnScope ["most", "thing"] ["most", "thing"] (defScope sTupOf) := ⟨rfl, rfl, rfl, by decide +kernel, rfl, by decide +kernel, by decide +kernel⟩
theorem ok_tupOf {f : Addr} {fd : FuncData} {k : Nat} (F : Fun K "is_tuple_of" "is_tuple_of" sTupOf f fd) (T : Tx mg) : FnOk P w K mg base CX0 (k + 1) f fd ["most", "thing"] spTupOf := by
  refine F.ok scTupOf (fun vs H Q E h => ?_) (fun cdv A outer s H vs Q E hr h => ?_)
  · obtain ⟨b, n, v, rfl, _⟩ := h
    rfl
  · obtain ⟨b, n, v, rfl, hv, q⟩ := h
    obtain ⟨t, ht⟩ := hv.th
    refine ⟨_, (pss_one (ps_ret (pe_and (pe_callB call_isTh (by rfl) T.isi (by decide +kernel) (pa_cons (pv 1) (pa_cons (pe_bltn (v := .ty "tuple") (u := .type "tuple") (by rfl) T.tuple_ (by decide +kernel) rfl) pa_nil))) (pe_one (pe_cmpR op_le (pe_callB call_len_seq (by rfl) T.len_ PySem.boot_len (pa_cons (pv 1) pa_nil)) (pv 0) (nomark _)))))), ?_⟩
    refine ⟨_, rfl, _, "tuple", t, rfl, ht, by decide, _, rfl, ?_⟩
    rcases tup_cases ht with ⟨a, xs, rfl, ha, et, rfl⟩ | ⟨e1, e2⟩
    · refine iteT ⟨_, rfl, _, _, rfl, .inr (.of ha), _, rfl, _, _, rfl, rfl, ?_⟩
      rw [tupB_at et] at q
      have e : decide ((xs.length : Int) ≤ (n : Int)) = decide (xs.length ≤ n) := by
        by_cases h : xs.length ≤ n
        · rw [decide_eq_true h, decide_eq_true (by omega)]
        · rw [decide_eq_false h, decide_eq_false (by omega)]
      show Q (.bl (decide ((xs.length : Int) ≤ (n : Int)))) H
      rw [e]
      exact q
    · rw [e2]
      rw [tupB_no e1] at q
      exact iteF q
theorem scFacts : FnScope ["most", "thing", "fact"] ["most", "thing"] (defScope sFacts) := ⟨rfl, rfl, rfl, by decide +kernel, rfl, by decide +kernel, by decide +kernel⟩
theorem ok_facts {f : Addr} {fd : FuncData} {k : Nat} (F : Fun K "is_facts" "is_facts" sFacts f fd) (T : Tx mg) (cT : Cal P w K mg base (k + 2) "is_tuple_of" ["most", "thing"] spTupOf) (cF : Cal P w K mg base (k + 2) "is_fact" ["thing"] spFact) : FnOk P w K mg base CX0 (k + 3) f fd ["most", "thing"] spFacts := by
  refine F.ok scFacts (fun vs H Q E h => ?_) (fun cdv A outer s H vs Q E hr h => ?_)
  · obtain ⟨b, n, v, rfl, _⟩ := h
    rfl
  · obtain ⟨b, n, v, rfl, hv, q⟩ := h
    obtain ⟨t, ht⟩ := hv.th
    refine ⟨_, (pss_one (ps_ret (pe_and (pe_c cT hr (by omega) (by rfl) (pa_cons (pv 0) (pa_cons (pv 1) pa_nil))) (pe_one (pe_callB (cr_all rfl) (by rfl) T.all_ (by decide +kernel) (pa_cons (pe_lc (own := [("fact", 2)]) (g := gName 2) (te := tCall spFact [] E0 (tCons (tVar 2) tNil)) rfl scFacts.nd (pi_tup (pv 1)) (blkOk_by (N := ["most", "thing", "fact"]) (sc := defScope sFacts) (by decide +kernel)) (fun _ _ _ _ _ => pg_name (i := 2) scFacts.nd rfl (Or.inl rfl)) (fun _ _ _ _ _ => pts_nil) (fun _ _ _ _ _ => (pe_c cF hr (by omega) (by rfl) (pa_cons (pv 2) pa_nil)))) pa_nil)))))), ?_⟩
    refine ⟨_, rfl, _, rfl, b, n, v, rfl, hv, _, rfl, ?_⟩
    rcases tup_cases ht with ⟨a, xs, rfl, ha, et, rfl⟩ | ⟨e1, e2⟩
    · obtain ⟨hl, hs⟩ := hv.sub ha
      rw [tupB_at et]
      rw [factsB_at et] at q
      by_cases hn : xs.length ≤ n
      · rw [decide_eq_true hn] at q ⊢
        rw [Bool.true_and] at q
        refine iteT ⟨_, rfl, a, rfl, ⟨_, .of ha⟩, fun D hD => ?_⟩
        refine lcP walk_tup (fun i => V.bl (factB H (xs.getD i .non))) (Nat.lt_of_le_of_lt hl (by decide)) hD (fun _ sm => seqT sm (.of ha)) ?_ ?_
        · rintro i y H3 H4 Q' hi' sm ⟨rfl, hy⟩ hq
          have ey : xs.getD i .non = y := by rw [List.getD_eq_getElem?_getD, hy]; rfl
          rw [ey] at hq
          have hy2 := hs y (List.mem_of_getElem? hy)
          rw [← factB_bl hy2 (.same sm)] at hq
          exact ⟨rfl, _, rfl, b, y, rfl, hy2.same sm, fun H5 s5 => hq _ s5⟩
        · intro H' sm hd
          refine ⟨D, (List.range xs.length).map fun i => factB H (xs.getD i .non), rfl, .inl (.inl (by rw [hd, List.map_map]; rfl)), ?_⟩
          rw [range_all (factB H) V.non xs]
          exact q _ sm
      · rw [decide_eq_false hn] at q ⊢
        rw [Bool.false_and] at q
        exact iteF (q _ (Same.refl _))
    · rw [tupB_no e1]
      rw [factsB_no e1] at q
      exact iteF (q _ (Same.refl _))
theorem scClause : FnScope ["thing"] ["thing"] (defScope sClause) := ⟨rfl, rfl, rfl, by decide +kernel, rfl, by decide +kernel, by decide +kernel⟩
theorem ok_clause {f : Addr} {fd : FuncData} {k : Nat} (F : Fun K "is_clause" "is_clause" sClause f fd) (T : Tx mg) (cT : Cal P w K mg base (k + 3) "is_tuple_of" ["most", "thing"] spTupOf) (cF : Cal P w K mg base (k + 3) "is_fact" ["thing"] spFact) (cS : Cal P w K mg base (k + 3) "is_facts" ["most", "thing"] spFacts) :
    FnOk P w K mg base CX0 (k + 4) f fd ["thing"] spClause := by
  obtain ⟨tm, hm⟩ := T.mb
  refine F.ok scClause (fun vs H Q E h => ?_) (fun cdv A outer s H vs Q E hr h => ?_)
  · obtain ⟨b, v, rfl, _⟩ := h
    rfl
  · obtain ⟨b, v, rfl, hv, q⟩ := h
    obtain ⟨t, ht⟩ := hv.th
    refine ⟨_, (pss_one (ps_ret (pe_and (pe_c cT hr (by omega) (by rfl) (pa_cons pe_int (pa_cons (pv 0) pa_nil))) (pe_and (pe_cmpR op_eq (pe_callB call_len_seq (by rfl) T.len_ PySem.boot_len (pa_cons (pv 0) pa_nil)) pe_int (nomark _)) (pe_and (pe_c cS hr (by omega) (by rfl) (pa_cons (pe_glob (v := .int 4) (by rfl) hm ⟨_, rfl⟩) (pa_cons (pe_ix ix_tup (pv 0) pe_int (fun _ _ => rfl)) pa_nil))) (pe_one (pe_c cF hr (by omega) (by rfl) (pa_cons (pe_ix ix_tup (pv 0) pe_int (fun _ _ => rfl)) pa_nil)))))))), ?_⟩
    refine ⟨_, rfl, b, 2, v, rfl, hv, _, rfl, ?_⟩
    rcases tup_cases ht with ⟨a, xs, rfl, ha, et, rfl⟩ | ⟨e1, e2⟩
    · obtain ⟨hl, hs⟩ := hv.sub ha
      rw [tupB_at et]
      by_cases hn : xs.length ≤ 2
      · rw [decide_eq_true hn]
        refine iteT ⟨_, rfl, a, _, rfl, .inr (.of ha), rfl, _, rfl, ?_⟩
        by_cases h2 : xs.length = 2
        · match xs, h2, hs, ha, et with
          | [x, y], _, hs, ha, et =>
            rw [clauseB_at et] at q
            rw [decide_eq_true (by rfl)]
            refine iteT ⟨_, rfl, a, _, _, x, rfl, rfl, .of ha, atI_nat (j := 0) rfl, ?_⟩
            have hy := hs y (by simp)
            refine ⟨b, 4, x, rfl, hs x (by simp), fun H1 s1 => ⟨_, rfl, ?_⟩⟩
            cases hx : factsB H 4 x with
            | false =>
              rw [hx] at q
              exact iteF (q _ s1)
            | true =>
              rw [hx, Bool.true_and, ← factB_bl hy (.same s1)] at q
              refine iteT ⟨_, rfl, a, _, _, y, rfl, rfl, .of (s1 _ _ ha), atI_nat (j := 1) rfl, ?_⟩
              exact ⟨b, y, rfl, hy.same s1, fun H2 s2 => q _ (s1.trans s2)⟩
        · rw [clauseB_len et h2] at q
          rw [decide_eq_false (fun z => h2 (by have := V.int.inj z; omega))]
          exact iteF (q _ (Same.refl _))
      · rw [clauseB_len et (by omega)] at q
        rw [decide_eq_false hn]
        exact iteF (q _ (Same.refl _))
    · rw [tupB_no e1]
      rw [clauseB_no e1] at q
      exact iteF (q _ (Same.refl _))
end
end L2.My
end
section
set_option Elab.async false
set_option linter.all false
set_option maxRecDepth 100000
set_option maxHeartbeats 4000000
/-! A for in whose body something is raised. -/
namespace L2.My
open PySem PySem.Spec PyProof.Rows
section
variable {X : Cx} {W : WX}
theorem dict_mapF (f : Array Value → Array Value) (o : Obj) : (Obj.mapFields f o).dict = o.dict := by
  unfold Obj.mapFields
  first | rfl | (split <;> rfl)
theorem zc_steady (cls : Value) (d : Option Addr) : PySem.HandSPX.Steady (Zc cls d) := fun o f h => ⟨(Obj.cls_mapFields ..).trans h.1, (dict_mapF f o).trans h.2⟩
theorem passes_xe (hs : X.stack = X.env :: X.outer) (hf : X.env.frame = some X.env.locals) : PassesOwn (model X.prog X.w) X.A X.env (XE X W) := by
  intro u s' x
  obtain ⟨a, B, sI, pins, σ, H, cls, d, rfl, I, hB, hu, hsky, ha, hos, hb, hw⟩ := x
  have fr := I.ok.frames
  rw [hs] at fr
  have key : ∀ h', PySem.HandSPX.HeldZ B X.stack a (Zc cls d) X.env.locals h' → sI.heap.UpToSlots h' → cameBackBy (model X.prog X.w) X.A X.env (XE X W) (.ref a) { s' with heap := h' } := by
    intro h' hh hu'
    unfold cameBackBy
    obtain ⟨b1, b2, b3, oe, vs, T, oT, ts, e1, e2, e3, e4, e5⟩ := id hh
    refine wpAny_bind (wpAny_field e1 e3 e4 ?_)
    have e0 : (Value.ref T == Value.none) = false := rfl
    simp only [e0, Bool.false_eq_true, if_false]
    rw [hf]
    exact PySem.HandSPX.setFlight_onZ hh fun h'' hh' hu'' => ⟨a, B, sI, pins, σ, H, cls, d, rfl, I, hB, hu'.trans hu'', .inr (.inr hh'), ha, hos, hb, hw⟩
  show wpAny _ _ (noteFrame (.ref a) X.env) (fun _ s'' => cameBackBy _ _ X.env (XE X W) (.ref a) s'') _ s'
  rcases hsky with ⟨k1, k2, k3, oe, vs, k4, k5, k6, k7⟩ | k | k
  · rw [hs] at k3
    exact PySem.HandSPX.look_newZ (zc_steady cls d) fr k3 hf k4 k1 k2 k6 k7 k5 fun h' hh hu' => key h' (by rw [hs]; exact hh) (hu.trans hu')
  · rw [hs] at k
    exact PySem.HandSPX.looks_onZ (zc_steady cls d) fr hf k fun h' hh hu' => key h' (by rw [hs]; exact hh) (hu.trans hu')
  · exact PySem.HandSPX.againZ hf k.2.2.2 (key _ k hu)
theorem takes_wish : Takes (X.wish (XE X W)) W := by
  intro u s' x
  obtain ⟨a, B, sI, pins, σ, H, cls, d, rfl, I, r⟩ := x
  exact ⟨a, B, sI, pins, σ, H, cls, d, rfl, I.unwish, r⟩
/-- a for whose body may raise: within, what is raised is wished for by W -/
theorem ps_forR {tg iter : Expr} {body : List Stmt} {wi : TI} {g : TG} {tb : TS} {pos : Pos} (hs : X.stack = X.env :: X.outer) (hf : X.env.frame = some X.env.locals) (hc : X.calm = true) (tk : Takes X W)
    (hi : PI (X.wish (XE X W)) tg iter wi) (hg : PG (X.wish (XE X W)) tg g) (hb : PSs (X.wish (XE X W)) body tb) (hx : ∀ x, foldedSetIterable iter X.env x = pure x := by intro _; rfl) : PS X (.For tg iter body [] pos) (tFor wi g tb) := by
  refine ⟨fun pins s σ H D I h => ?_⟩
  refine wpAny_mono ((ps_for (X := X.wish (XE X W)) (passes_xe hs hf) hc hi hg hb hx).run pins s σ H D (I.wish _) h) (fun q s1 z => ?_) fun e s1 x => tk e s1 x
  exact z.unwish
end
end L2.My
end
section
set_option Elab.async false
set_option linter.all false
set_option maxRecDepth 100000
set_option maxHeartbeats 4000000
namespace L2.My
open PySem PySem.Spec PyProof.Rows
/-! ### what is at fault in a rule's parts -/
inductive Part where
  | cl
  | gr
  | at_ (n : Nat)
  | gn (n : Nat)
def PartV (H : Hp) : Part → V → Prop
  | .cl, v => v = .str "clauses"
  | .gr, v => v = .str "grounds"
  | .at_ n, v => v = .int (n : Int)
  | .gn n, v => ∃ a, v = .ref a ∧ H a = some (.tup [.str "ground", .int (n : Int)])
theorem PartV.same {H H' : Hp} {p : Part} {v : V} (h : PartV H p v) (s : Same H H') : PartV H' p v := by
  cases p with
  | gn n =>
    obtain ⟨a, e, h⟩ := h
    exact ⟨a, e, s _ _ h⟩
  | _ => exact h
def badI (p : V → Bool) (xs : List V) : Option Nat := xs.findIdx? fun x => !p x
theorem badI_none {p : V → Bool} {xs : List V} : badI p xs = none ↔ ∀ x ∈ xs, p x = true := by
  unfold badI
  rw [List.findIdx?_eq_none_iff]
  constructor
  · intro h x hx
    have := h x hx
    simpa using this
  · intro h x hx
    rw [h x hx]
    rfl
theorem badI_at {p : V → Bool} : ∀ {xs : List V} {n : Nat} {x : V}, xs[n]? = some x → p x = false → (∀ j y, j < n → xs[j]? = some y → p y = true) → badI p xs = some n
  | [], n, x, h, _, _ => by simp at h
  | a :: r, 0, x, h, hp, _ => by
    have e : a = x := Option.some.inj h
    unfold badI
    rw [List.findIdx?_cons, e, hp]
    rfl
  | a :: r, n + 1, x, h, hp, hj => by
    have ha := hj 0 a (Nat.succ_pos _) rfl
    have ih := badI_at (xs := r) (n := n) (x := x) h hp fun j y hlt hy => hj (j + 1) y (Nat.succ_lt_succ hlt) hy
    unfold badI at ih ⊢
    rw [List.findIdx?_cons, ha, ih]
    rfl
def faultOf (H : Hp) (c g : V) : Option Part := match tupOf H c with
  | none => some .cl
  | some cs => match tupOf H g with
    | none => some .gr
    | some gs => if 60 < gs.length then some .gr else match badI (clauseB H) cs with
      | some n => some (.at_ n)
      | none => (badI (factsB H 5000) gs).map .gn
theorem fault_cl {H : Hp} {c g : V} (h : tupOf H c = none) : faultOf H c g = some .cl := by unfold faultOf; rw [h]
theorem fault_gr {H : Hp} {c g : V} {cs : List V} (h : tupOf H c = some cs) (h2 : tupOf H g = none) : faultOf H c g = some .gr := by unfold faultOf; rw [h, h2]
theorem fault_gl {H : Hp} {c g : V} {cs gs : List V} (h : tupOf H c = some cs) (h2 : tupOf H g = some gs) (h3 : 60 < gs.length) : faultOf H c g = some .gr := by
  unfold faultOf
  rw [h, h2]
  exact if_pos h3
theorem fault_at {H : Hp} {c g : V} {cs gs : List V} {n : Nat} (h : tupOf H c = some cs) (h2 : tupOf H g = some gs) (h3 : ¬ 60 < gs.length) (h4 : badI (clauseB H) cs = some n) : faultOf H c g = some (.at_ n) := by
  unfold faultOf
  rw [h, h2]
  dsimp only
  rw [if_neg h3, h4]
theorem fault_gn {H : Hp} {c g : V} {cs gs : List V} (h : tupOf H c = some cs) (h2 : tupOf H g = some gs) (h3 : ¬ 60 < gs.length) (h4 : badI (clauseB H) cs = none) : faultOf H c g = (badI (factsB H 5000) gs).map .gn := by
  unfold faultOf
  rw [h, h2]
  dsimp only
  rw [if_neg h3, h4]
theorem faultOf_bl {b : Addr} {H H' : Hp} {c g : V} (hc : Thg b H c) (hg : Thg b H g) (s : BL [b] H H') : faultOf H' c g = faultOf H c g := by
  unfold faultOf
  rw [tupOf_bl hc s, tupOf_bl hg s]
  cases e1 : tupOf H c with
  | none => rfl
  | some cs =>
    cases e2 : tupOf H g with
    | none => rfl
    | some gs =>
      obtain ⟨a, _, _, _, q⟩ := tupOf_sub hc e1
      obtain ⟨a2, _, _, _, q2⟩ := tupOf_sub hg e2
      dsimp only
      have f1 : badI (clauseB H') cs = badI (clauseB H) cs := by
        unfold badI
        have : ∀ xs : List V, (∀ x ∈ xs, Thg b H x) → xs.findIdx? (fun x => !clauseB H' x) = xs.findIdx? (fun x => !clauseB H x) := by
          intro xs
          induction xs with
          | nil => intro _; rfl
          | cons x r ih =>
            intro h
            rw [List.findIdx?_cons, List.findIdx?_cons, clauseB_bl (h x List.mem_cons_self) s, ih fun y hy => h y (List.mem_cons_of_mem _ hy)]
        exact this cs q
      have f2 : badI (factsB H' 5000) gs = badI (factsB H 5000) gs := by
        unfold badI
        have : ∀ xs : List V, (∀ x ∈ xs, Thg b H x) → xs.findIdx? (fun x => !factsB H' 5000 x) = xs.findIdx? (fun x => !factsB H 5000 x) := by
          intro xs
          induction xs with
          | nil => intro _; rfl
          | cons x r ih =>
            intro h
            rw [List.findIdx?_cons, List.findIdx?_cons, factsB_bl (h x List.mem_cons_self) s, ih fun y hy => h y (List.mem_cons_of_mem _ hy)]
        exact this gs q2
      rw [f1, f2]
/-! ### the error -/
def spPart (C : Addr) : Sp := fun vs H Q _ => ∃ a v, vs = [.ref a, v] ∧ H a = some (exo a C none) ∧ ∀ dx H2, H dx = none → dx ≠ a → H2 = upd (upd H dx (exd dx [("part", v)])) a (exo a C (some dx)) → Q .non H2
/-- the facts of BadRule -/
structure BadC (P : Program) (w : World) (K : PySem.W.Frag) (mg : Str → Option Value) (base : Heap) (C : Addr) where
  x : XC K C
  no : PySem.W.findIn K (.ref C) "part" = some none
  fI : Addr
  fd : FuncData
  i : PySem.W.findIn K (.ref C) "__init__" = some (some (.ref fI))
  t : PySem.W.typeIn K (.ref fI) = some (.type "function")
  F : FnOk P w K mg base CX0 1 fI fd ["self", "part"] (spPart C)
  b : Binds K fd ["self", "part"] []
  g : mg "BadRule" = some (.ref C)
  P0 : Addr
  gP : mg "PostError" = some (.ref P0)
  ve : mg "ValueError" = none
  kP : PySem.W.kitOne K (.ref C) (.ref P0) = some true
  kV : PySem.W.kitOne K (.ref C) (.type "ValueError") = some true
  te : PySem.W.exmOne K (.ref C) (.ref C) = some true
theorem bad_of {C : Addr} {H1 : Hp} {v : V} {Q : XK} (h : ∀ H2 d, Same H1 H2 → H1 d = none → H2 d = some (.xd [("part", v)]) → Q (.ref C) (some d) H2) :
    [v].length ≤ 1000 ∧ ∀ a, H1 a = none → spPart C (.ref a :: ([v] ++ [])) (upd H1 a (exo a C none)) (fun u H2 => u = .non ∧ ∃ (d : Addr) (fs : List (Str × V)), H2 a = some (exo a C (some d)) ∧ H2 d = some (exd d fs) ∧ H1 d = none ∧ Q (.ref C) (some d) (upd (del H2 a) d (.xd fs))) (fun _ _ _ => False) := by
  refine ⟨by show 1 ≤ 1000; decide, fun a ha => ⟨a, v, rfl, upd_same, fun dx H2 hdx ne e => ⟨rfl, dx, [("part", v)], ?_, ?_, ?_, ?_⟩⟩⟩
  · rw [e, upd_same]
  · rw [e, upd_ne ne, upd_same]
  · rw [upd_ne ne] at hdx; exact hdx
  · have hd1 : H1 dx = none := by rw [upd_ne ne] at hdx; exact hdx
    refine h _ dx (fun p o hp => ?_) hd1 upd_same
    have n1 : p ≠ dx := fun z => by rw [z, hd1] at hp; cases hp
    have n2 : p ≠ a := fun z => by rw [z, ha] at hp; cases hp
    rw [upd_ne n1]
    show (if p = a then none else H2 p) = some o
    rw [if_neg n2, e, upd_ne n2, upd_ne n1, upd_ne n2]
    exact hp
abbrev sBad : Stmt := mB 0
def spRule (C B : Addr) : Sp := fun vs H Q E => ∃ b x dx c g, vs = [.ref x, c, g] ∧ H x = some (.ins C dx []) ∧ Thg b H c ∧ Thg b H g ∧
  (faultOf H c g = none → ∀ H', BL [x] H H' → H' x = some (.ins C dx [("clauses", c), ("grounds", g)]) → Q .non H') ∧
  (∀ p, faultOf H c g = some p → ∀ H' d v, Same H H' → PartV H' p v → H d = none → H' d = some (.xd [("part", v)]) → E (.ref B) (some d) H')
abbrev nRu : List Str := ["self", "clauses", "grounds", "at", "clause", "ground"]
section
variable {P : Program} {w : World} {K : PySem.W.Frag} {mg : Str → Option Value} {base : Heap} {C B : Addr}
theorem scBad : FnScope ["self", "part"] ["self", "part"] (defScope sBad) := ⟨rfl, rfl, rfl, by decide +kernel, rfl, by decide +kernel, by decide +kernel⟩
theorem ok_bad {f : Addr} {fd : FuncData} (F : Fun K "__init__" "BadRule.__init__" sBad f fd) (T : OexC K C) (hno : PySem.W.findIn K (.ref C) "part" = some none) : FnOk P w K mg base CX0 1 f fd ["self", "part"] (spPart C) := by
  refine F.ok scBad (fun vs H Q E h => ?_) (fun cdv A outer s H vs Q E hr h => ?_)
  · obtain ⟨a, v, rfl, _⟩ := h
    rfl
  · obtain ⟨a, v, rfl, ha, q⟩ := h
    exact ⟨_, pss_one (ps_ost (pv 0) (pv 1)), ⟨_, rfl, _, rfl, a, C, rfl, T, hno, .inl ⟨ha, fun dx n ne => q dx _ n ne rfl⟩⟩⟩
theorem scRu : FnScope nRu ["self", "clauses", "grounds"] (defScope (mR 0)) := ⟨rfl, rfl, rfl, by decide +kernel, rfl, by decide +kernel, by decide +kernel⟩
theorem ok_rule {f : Addr} {fd : FuncData} {k : Nat} (F : Fun K "__init__" "Rule.__init__" (mR 0) f fd) (T : Tx mg) (c : RuC K C) (N : BadC P w K mg base B) (cT : Cal P w K mg base (k + 4) "is_tuple_of" ["most", "thing"] spTupOf) (cC : Cal P w K mg base (k + 4) "is_clause" ["thing"] spClause) (cS : Cal P w K mg base (k + 4) "is_facts" ["most", "thing"] spFacts) :
    FnOk P w K mg base (CX P w) (k + 5) f fd ["self", "clauses", "grounds"] (spRule C B) := by
  obtain ⟨t1, h1⟩ := T.mc
  obtain ⟨t2, h2⟩ := T.mgr
  obtain ⟨t3, h3⟩ := T.mf
  refine F.okX scRu (fun vs H Q E h => ?_) (fun cdv A outer s H vs Q E hr h => ?_)
  · obtain ⟨b, x, dx, c, g, rfl, _⟩ := h
    rfl
  · obtain ⟨b, x, dx, cl, gr, rfl, hx, hc, hg, q, qe⟩ := h
    have tk := takes_of (X := cxOf (CX P w) P w K mg base nRu "Rule.__init__" (defScope (mR 0)) f cdv A outer s H E) (E := E) rfl rfl rfl rfl
    refine ⟨_, (pss_cons (ps_if (pt_not (pt_val (pe_c cT hr (by omega) (by rfl) (pa_cons (pe_glob (v := .int 20000) (by rfl) h1 ⟨_, rfl⟩) (pa_cons (pv 1) pa_nil))))) (pss_one (ps_raise rfl tk (pmk_oex N.x.o N.i N.t N.F (hr.mono (by omega)) N.b .nil pass0 (by rfl) N.g (pa_cons pe_str pa_nil)))) pss_nil) (pss_cons (ps_if (pt_not (pt_val (pe_c cT hr (by omega) (by rfl) (pa_cons (pe_glob (v := .int 60) (by rfl) h2 ⟨_, rfl⟩) (pa_cons (pv 2) pa_nil))))) (pss_one (ps_raise rfl tk (pmk_oex N.x.o N.i N.t N.F (hr.mono (by omega)) N.b .nil pass0 (by rfl) N.g (pa_cons pe_str pa_nil)))) pss_nil) (pss_cons (ps_forR rfl rfl rfl tk (pi_enT (by rfl) T.enum_ (pa_cons (pv 1) pa_nil)) (pg_tup rfl (pgs_cons (pg_name (i := 3) scRu.nd rfl (Or.inl rfl)) (pgs_cons (pg_name (i := 4) scRu.nd rfl (Or.inl rfl)) pgs_nil))) (pss_one (ps_if (pt_not (pt_val (pe_c cC hr (by omega) (by rfl) (pa_cons (pv 4) pa_nil)))) (pss_one (ps_raise rfl takes_wish (pmk_oex N.x.o N.i N.t N.F (hr.mono (by omega)) N.b .nil pass0 (by rfl) N.g (pa_cons (pv 3) pa_nil)))) pss_nil))) (pss_cons (ps_forR rfl rfl rfl tk (pi_enT (by rfl) T.enum_ (pa_cons (pv 2) pa_nil)) (pg_tup rfl (pgs_cons (pg_name (i := 3) scRu.nd rfl (Or.inl rfl)) (pgs_cons (pg_name (i := 5) scRu.nd rfl (Or.inl rfl)) pgs_nil))) (pss_one (ps_if (pt_not (pt_val (pe_c cS hr (by omega) (by rfl) (pa_cons (pe_glob (v := .int 5000) (by rfl) h3 ⟨_, rfl⟩) (pa_cons (pv 5) pa_nil))))) (pss_one (ps_raise rfl takes_wish (pmk_oex N.x.o N.i N.t N.F (hr.mono (by omega)) N.b .nil pass0 (by rfl) N.g (pa_cons (pe_tup (pa_cons pe_str (pa_cons (pv 3) pa_nil))) pa_nil)))) pss_nil))) (pss_cons (ps_fld (pv 0) (pv 1) rfl) (pss_one (ps_fld (pv 0) (pv 2) rfl))))))), ?_⟩
    refine ⟨_, rfl, b, 20000, cl, rfl, hc, _, rfl, ?_⟩
    obtain ⟨tc, htc⟩ := hc.th
    rcases tup_cases htc with ⟨ca, cs, rfl, hca, ec, rfl⟩ | ⟨e1, e2⟩
    rotate_left
    · rw [tupB_no e1]
      exact iteT (bad_of fun H2 d s n e => qe _ (fault_cl e1) H2 d _ s rfl n e)
    obtain ⟨hcl, hcs⟩ := hc.sub hca
    rw [tupB_at ec, decide_eq_true (show cs.length ≤ 20000 by omega)]
    refine iteF ?_
    refine ⟨_, rfl, b, 60, gr, rfl, hg, _, rfl, ?_⟩
    obtain ⟨tg, htg⟩ := hg.th
    rcases tup_cases htg with ⟨ga, gs, rfl, hga, eg, rfl⟩ | ⟨e1, e2⟩
    rotate_left
    · rw [tupB_no e1]
      exact iteT (bad_of fun H2 d s n e => qe _ (fault_gr ec e1) H2 d _ s rfl n e)
    obtain ⟨hgl, hgs⟩ := hg.sub hga
    rw [tupB_at eg]
    by_cases h60 : gs.length ≤ 60
    rotate_left
    · rw [decide_eq_false h60]
      exact iteT (bad_of fun H2 d s n e => qe _ (fault_gl ec eg (by omega)) H2 d _ s rfl n e)
    rw [decide_eq_true h60]
    refine iteF ?_
    refine ⟨_, rfl, ca, _, rfl, .of hca, ?_⟩
    refine for_it (walk_enT (xs := cs)) (fun i σ G => ∃ y z, σ = [some (.ref x), some (.ref ca), some (.ref ga), y, z, none] ∧ Same H G ∧ ∀ j u, j < i → cs[j]? = some u → clauseB H u = true) ⟨_, _, rfl, Same.refl H, fun j u hj => absurd hj (Nat.not_lt_zero _)⟩ (fun i σ G _ h => ?_) ?_ ?_
    · obtain ⟨y, z, rfl, sm, _⟩ := h
      exact .of (sm _ _ hca)
    · rintro i v σ G G' hi ⟨y, z, rfl, sm, hj⟩ ⟨p, u1, u2, rfl, np, rfl, e1, e2⟩
      cases Option.some.inj e1
      have e2' : cs[i]? = some u2 := e2
      have hu2 := hcs u2 (List.mem_of_getElem? e2')
      have s1 : Same G (upd G p (.tup [.int (i : Nat), u2])) := same_upd np
      refine ⟨p, _, rfl, .of upd_same, rfl, _, _, rfl, _, _, rfl, rfl, ?_⟩
      refine ⟨_, rfl, b, u2, rfl, hu2.same (sm.trans s1), fun H2 s2 => ⟨_, rfl, ?_⟩⟩
      rw [clauseB_bl hu2 (.same (sm.trans s1))]
      cases hb : clauseB H u2 with
      | true =>
        refine iteF ⟨_, _, rfl, sm.trans (s1.trans s2), fun j u hlt hu => ?_⟩
        rcases Nat.lt_succ_iff_lt_or_eq.mp hlt with z | z
        · exact hj j u z hu
        · rw [z, e2'] at hu; cases hu; exact hb
      | false =>
        refine iteT ⟨_, rfl, bad_of fun H3 d s n e => ?_⟩
        have sA := sm.trans (s1.trans s2)
        exact qe _ (fault_at ec eg (by omega) (badI_at e2' hb hj)) H3 d _ (sA.trans s) rfl (sA.free n) e
    · rintro σ G ⟨y, z, rfl, sm, hj⟩
      have nc : badI (clauseB H) cs = none := badI_none.mpr fun u hu => by
        obtain ⟨j, hjl, e⟩ := List.getElem_of_mem hu
        exact hj j u hjl (by rw [List.getElem?_eq_getElem hjl, e])
      refine ⟨_, rfl, ga, _, rfl, .of (sm _ _ hga), ?_⟩
      refine for_it (walk_enT (xs := gs)) (fun i σ G => ∃ y z z2, σ = [some (.ref x), some (.ref ca), some (.ref ga), y, z, z2] ∧ Same H G ∧ ∀ j u, j < i → gs[j]? = some u → factsB H 5000 u = true) ⟨_, _, _, rfl, sm, fun j u hj => absurd hj (Nat.not_lt_zero _)⟩ (fun i σ G _ h => ?_) ?_ ?_
      · obtain ⟨y, z, z2, rfl, sm, _⟩ := h
        exact .of (sm _ _ hga)
      · rintro i v σ G G' hi ⟨y, z, z2, rfl, sm, hj⟩ ⟨p, u1, u2, rfl, np, rfl, e1, e2⟩
        cases Option.some.inj e1
        have e2' : gs[i]? = some u2 := e2
        have hu2 := hgs u2 (List.mem_of_getElem? e2')
        have s1 : Same G (upd G p (.tup [.int (i : Nat), u2])) := same_upd np
        refine ⟨p, _, rfl, .of upd_same, rfl, _, _, rfl, _, _, rfl, rfl, ?_⟩
        refine ⟨_, rfl, b, 5000, u2, rfl, hu2.same (sm.trans s1), fun H2 s2 => ⟨_, rfl, ?_⟩⟩
        rw [factsB_bl hu2 (.same (sm.trans s1))]
        cases hb : factsB H 5000 u2 with
        | true =>
          refine iteF ⟨_, _, _, rfl, sm.trans (s1.trans s2), fun j u hlt hu => ?_⟩
          rcases Nat.lt_succ_iff_lt_or_eq.mp hlt with z | z
          · exact hj j u z hu
          · rw [z, e2'] at hu; cases hu; exact hb
        | false =>
          refine iteT ⟨_, rfl, by show 2 ≤ sizeLine; decide, fun t nt => bad_of fun H3 d s n e => ?_⟩
          have s3 := same_upd (o := HO.tup [.str "ground", .int (i : Nat)]) nt
          have sA := sm.trans (s1.trans (s2.trans s3))
          exact qe (.gn i) (by rw [fault_gn ec eg (by omega) nc, badI_at e2' hb hj]; rfl) H3 d _ (sA.trans s) ⟨t, rfl, s _ _ upd_same⟩ (sA.free n) e
      · rintro σ G ⟨y, z, z2, rfl, sm, hj⟩
        have ng : badI (factsB H 5000) gs = none := badI_none.mpr fun u hu => by
          obtain ⟨j, hjl, e⟩ := List.getElem_of_mem hu
          exact hj j u hjl (by rw [List.getElem?_eq_getElem hjl, e])
        refine ⟨_, rfl, _, rfl, x, C, dx, _, rfl, sm _ _ hx, c.cls, c.na _ (by simp), by show 0 < 1000; decide, ?_⟩
        refine ⟨_, rfl, _, rfl, x, C, dx, _, rfl, upd_same, c.cls, c.na _ (by simp), by show 1 < 1000; decide, ?_⟩
        have b1 : BL [x] H (upd (upd G x (.ins C dx (putF "clauses" (.ref ca) []))) x (.ins C dx (putF "grounds" (.ref ga) (putF "clauses" (.ref ca) [])))) := BL.trans (.same sm) (BL.trans (.upd (by simp)) (.upd (by simp)))
        exact q (by rw [fault_gn ec eg (by omega) nc, ng]; rfl) _ b1 (by rw [upd_same]; rfl)
end
end L2.My
end
section
set_option Elab.async false
set_option linter.all false
set_option maxRecDepth 100000
set_option maxHeartbeats 4000000
namespace L2.My
open PySem PySem.Spec PyProof.Rows
structure GQ (cs : List Cz) (gs : List (List Fc)) : Prop where
  cl : ∀ c ∈ cs, (∀ f ∈ c.1, GF f) ∧ GF c.2
  gr : ∀ g ∈ gs, ∀ f ∈ g, GF f
theorem GR.q {cs : List Cz} {gs : List (List Fc)} (h : GR cs gs) : GQ cs gs := ⟨fun c hc => (h.cl c hc).2, h.gr⟩
/-! ### what passed all judges -/
theorem wordB_S {z : Str} : wordB z = true ↔ wordS z := by
  unfold wordB wordS
  rw [Bool.and_eq_true, Bool.and_eq_true, decide_eq_true_eq, decide_eq_true_eq]
  rfl
theorem ints_of : ∀ {xs : List V}, xs.all (belowV 1000000000000) = true → ∃ is : List Int, xs = is.map V.int ∧ ∀ i ∈ is, 0 ≤ i ∧ i < 1000000000000
  | [], _ => ⟨[], rfl, by simp⟩
  | x :: r, h => by
    rw [List.all_cons, Bool.and_eq_true] at h
    obtain ⟨is, e, h2⟩ := ints_of h.2
    cases x with
    | int i =>
      refine ⟨i :: is, by rw [e]; rfl, fun j hj => ?_⟩
      rcases List.mem_cons.mp hj with z | z
      · rw [z]; exact of_decide_eq_true h.1
      · exact h2 j z
    | _ => exact absurd h.1 (by simp [belowV])
theorem all_ints {is : List Int} (h : ∀ i ∈ is, 0 ≤ i ∧ i < 1000000000000) : (is.map V.int).all (belowV 1000000000000) = true := by
  rw [List.all_eq_true]
  intro x hx
  obtain ⟨i, hi, rfl⟩ := List.mem_map.mp hx
  exact decide_eq_true (h i hi)
theorem fact_of {b : Addr} {H : Hp} {v : V} (h : Thg b H v) (hb : factB H v = true) : ∃ a f, v = .ref a ∧ FactAt H a f ∧ GF f := by
  obtain ⟨t, ht⟩ := h.th
  rcases tup_cases ht with ⟨a, ys, rfl, ha, et, _⟩ | ⟨e, _⟩
  · cases ys with
    | nil => rw [factB_nil et] at hb; cases hb
    | cons x xs =>
      rw [factB_at et, Bool.and_eq_true, Bool.and_eq_true, decide_eq_true_eq] at hb
      obtain ⟨h4, hw, hi⟩ := hb
      obtain ⟨is, rfl, hr⟩ := ints_of hi
      cases x with
      | str z =>
        refine ⟨a, .inr z :: is.map .inl, rfl, ?_, z, is, rfl, wordB_S.mp hw, by rw [List.length_map] at h4; exact h4, hr⟩
        unfold FactAt
        rw [ha, List.map_cons, List.map_map]
        rfl
      | _ => cases hw
  · rw [factB_no e] at hb; cases hb
theorem facts_of {b : Addr} {H : Hp} : ∀ {xs : List V}, (∀ x ∈ xs, Thg b H x) → xs.all (factB H) = true → ∃ (as : List Addr) (fs : List Fc), xs = as.map .ref ∧ Paired (FactAt H) as fs ∧ ∀ f ∈ fs, GF f
  | [], _, _ => ⟨[], [], rfl, .nil, by simp⟩
  | x :: r, h, hb => by
    rw [List.all_cons, Bool.and_eq_true] at hb
    obtain ⟨as, fs, e, hp, hg⟩ := facts_of (fun y hy => h y (List.mem_cons_of_mem _ hy)) hb.2
    obtain ⟨a, f, rfl, hf, gf⟩ := fact_of (h x List.mem_cons_self) hb.1
    refine ⟨a :: as, f :: fs, by rw [e]; rfl, .cons hf hp, fun g hgm => ?_⟩
    rcases List.mem_cons.mp hgm with z | z
    · rw [z]; exact gf
    · exact hg g z
theorem tuple_of {b : Addr} {H : Hp} {v : V} {n : Nat} (h : Thg b H v) (hb : factsB H n v = true) : ∃ a fs, v = .ref a ∧ FactsAt H a fs ∧ (∀ f ∈ fs, GF f) ∧ fs.length ≤ n := by
  obtain ⟨t, ht⟩ := h.th
  rcases tup_cases ht with ⟨a, ys, rfl, ha, et, _⟩ | ⟨e, _⟩
  · rw [factsB_at et, Bool.and_eq_true, decide_eq_true_eq] at hb
    obtain ⟨as, fs, rfl, hp, hg⟩ := facts_of (h.sub ha).2 hb.2
    exact ⟨a, fs, rfl, ⟨as, ha, hp⟩, hg, by rw [← Paired.len hp]; simpa using hb.1⟩
  · rw [factsB_no e] at hb; cases hb
theorem clause_of {b : Addr} {H : Hp} {v : V} (h : Thg b H v) (hb : clauseB H v = true) : ∃ a c, v = .ref a ∧ ClAt H a c ∧ (∀ f ∈ c.1, GF f) ∧ GF c.2 := by
  obtain ⟨t, ht⟩ := h.th
  rcases tup_cases ht with ⟨a, ys, rfl, ha, et, _⟩ | ⟨e, _⟩
  · by_cases h2 : ys.length = 2
    · match ys, h2, ha, et with
      | [x, y], _, ha, et =>
        rw [clauseB_at et, Bool.and_eq_true] at hb
        obtain ⟨xa, fs, rfl, hx, gx, _⟩ := tuple_of ((h.sub ha).2 x (by simp)) hb.1
        obtain ⟨ya, f, rfl, hy, gy⟩ := fact_of ((h.sub ha).2 y (by simp)) hb.2
        exact ⟨a, (fs, f), rfl, ⟨xa, ya, ha, hx, hy⟩, gx, gy⟩
    · rw [clauseB_len et h2] at hb; cases hb
  · rw [clauseB_no e] at hb; cases hb
/-! ### what was made well passes them -/
def NoTup (H : Hp) (b : Addr) : Prop := ∀ xs, H b ≠ some (.tup xs)
theorem NoTup.ne {H : Hp} {a b : Addr} {xs : List V} (h : NoTup H b) (e : H a = some (.tup xs)) : a ≠ b := fun z => h xs (z ▸ e)
theorem thg_fact {b a : Addr} {H : Hp} {f : Fc} (n : NoTup H b) (h : FactAt H a f) (g : GF f) : Thg b H (.ref a) := by
  obtain ⟨z, is, rfl, hz, hl, hi⟩ := g
  refine .tup h (n.ne h) (by simp only [List.length_map, List.length_cons]; omega) fun x hx => ?_
  obtain ⟨k, hk, rfl⟩ := List.mem_map.mp hx
  rcases List.mem_cons.mp hk with e | e
  · rw [e]; exact .str z (Nat.le_trans hz.2.1 (by decide))
  · obtain ⟨i, _, rfl⟩ := List.mem_map.mp e
    exact .int i
theorem factB_ok {a : Addr} {H : Hp} {f : Fc} (h : FactAt H a f) (g : GF f) : factB H (.ref a) = true := by
  obtain ⟨z, is, rfl, hz, hl, hi⟩ := g
  have e : tupOf H (.ref a) = some (.str z :: is.map V.int) := by
    rw [tupOf_at h, List.map_cons, List.map_map]
    rfl
  rw [factB_at e, List.length_map, decide_eq_true hl, all_ints hi]
  show (true && (wordB z && true)) = true
  rw [wordB_S.mpr hz]
  rfl
theorem pair_ref {α : Type} {R : Addr → α → Prop} {as : List Addr} {xs : List α} (h : Paired R as xs) {v : V} (hv : v ∈ as.map V.ref) : ∃ a x, v = .ref a ∧ R a x ∧ x ∈ xs := by
  obtain ⟨j, hj⟩ := List.getElem?_of_mem hv
  obtain ⟨a, ha, rfl⟩ := ref_at hj
  obtain ⟨x, hx, r⟩ := Paired.at' h ha
  exact ⟨a, x, rfl, r, List.mem_of_getElem? hx⟩
theorem thg_facts {b a : Addr} {H : Hp} {fs : List Fc} (n : NoTup H b) (h : FactsAt H a fs) (g : ∀ f ∈ fs, GF f) (hl : fs.length ≤ 5000) : Thg b H (.ref a) := by
  obtain ⟨as, ha, hp⟩ := h
  refine .tup ha (n.ne ha) (by rw [List.length_map, Paired.len hp]; exact hl) fun x hx => ?_
  obtain ⟨a', f, rfl, hf, hm⟩ := pair_ref hp hx
  exact thg_fact n hf (g f hm)
theorem factsB_ok {a : Addr} {H : Hp} {fs : List Fc} {m : Nat} (h : FactsAt H a fs) (g : ∀ f ∈ fs, GF f) (hl : fs.length ≤ m) : factsB H m (.ref a) = true := by
  obtain ⟨as, ha, hp⟩ := h
  rw [factsB_at (tupOf_at ha), List.length_map, Paired.len hp, decide_eq_true hl, Bool.true_and, List.all_eq_true]
  intro x hx
  obtain ⟨a', f, rfl, hf, hm⟩ := pair_ref hp hx
  exact factB_ok hf (g f hm)
theorem thg_clause {b a : Addr} {H : Hp} {c : Cz} (n : NoTup H b) (h : ClAt H a c) (g : GC c) : Thg b H (.ref a) := by
  obtain ⟨x, y, ha, hx, hy⟩ := h
  refine .tup ha (n.ne ha) (by show 2 ≤ 5000; decide) fun v hv => ?_
  simp only [List.mem_cons, List.not_mem_nil, or_false] at hv
  rcases hv with rfl | rfl
  · exact thg_facts n hx g.2.1 (Nat.le_trans g.1 (by decide))
  · exact thg_fact n hy g.2.2
theorem clauseB_ok {a : Addr} {H : Hp} {c : Cz} (h : ClAt H a c) (g : GC c) : clauseB H (.ref a) = true := by
  obtain ⟨x, y, ha, hx, hy⟩ := h
  rw [clauseB_at (tupOf_at ha), factsB_ok hx g.2.1 g.1, factB_ok hy g.2.2]
  rfl
theorem thg_cls {b a : Addr} {H : Hp} {cs : List Cz} (n : NoTup H b) (h : ClsAt H a cs) (g : ∀ c ∈ cs, GC c) (hl : cs.length ≤ 5000) : Thg b H (.ref a) := by
  obtain ⟨as, ha, hp⟩ := h
  refine .tup ha (n.ne ha) (by rw [List.length_map, Paired.len hp]; exact hl) fun x hx => ?_
  obtain ⟨a', f, rfl, hf, hm⟩ := pair_ref hp hx
  exact thg_clause n hf (g f hm)
theorem thg_grs {b a : Addr} {H : Hp} {gs : List (List Fc)} (n : NoTup H b) (h : GrsAt H a gs) (g : ∀ x ∈ gs, (∀ f ∈ x, GF f) ∧ x.length ≤ 5000) (hl : gs.length ≤ 5000) : Thg b H (.ref a) := by
  obtain ⟨as, ha, hp⟩ := h
  refine .tup ha (n.ne ha) (by rw [List.length_map, Paired.len hp]; exact hl) fun x hx => ?_
  obtain ⟨a', f, rfl, hf, hm⟩ := pair_ref hp hx
  exact thg_facts n hf (g f hm).1 (g f hm).2
theorem fault_ok {ca ga : Addr} {H : Hp} {cs : List Cz} {gs : List (List Fc)} (h1 : ClsAt H ca cs) (h2 : GrsAt H ga gs) (g : GR cs gs) : faultOf H (.ref ca) (.ref ga) = none := by
  obtain ⟨as, ha, hp⟩ := h1
  obtain ⟨bs, hb, hq⟩ := h2
  have lb := Paired.len hq
  have n1 : badI (clauseB H) (as.map V.ref) = none := badI_none.mpr fun x hx => by
    obtain ⟨a', f, rfl, hf, hm⟩ := pair_ref hp hx
    exact clauseB_ok hf (g.cl f hm)
  have n2 : badI (factsB H 5000) (bs.map V.ref) = none := badI_none.mpr fun x hx => by
    obtain ⟨a', f, rfl, hf, hm⟩ := pair_ref hq hx
    exact factsB_ok hf (g.gr f hm) (Nat.le_trans (g.nf f hm) (by decide))
  have := g.ng
  rw [fault_gn (tupOf_at ha) (tupOf_at hb) (by rw [List.length_map]; omega) n1, n2]
  rfl
end L2.My
end
section
set_option Elab.async false
set_option linter.all false
set_option maxRecDepth 100000
set_option maxHeartbeats 4000000
namespace L2.My
open PySem PySem.Spec PyProof.Rows
section
variable {X : Cx} {k j : Nat} {x m : Str} {ps : List Str} {sp : Sp} {C : Addr} {p pos apos : Pos} {e o : Expr} {es : List Expr} {t : TA} {to : TE}
theorem pe_mk (c : Mak X.prog X.w X.K X.mg X.base k C x ps sp) (hr : Room j X.A) (hk : k + 1 ≤ j) (hg : Gl X x) (ha : L2.PA X (e :: es) t) (hdb : (x == ("__debug__" : Str)) = false := by decide)
    (he : starEach (e :: es) X.env = (false, eval e X.env) :: starEach es X.env := by rfl) (hpl : (backTo pos (starEach es X.env)).any (·.1) = false := by rfl) : PE X (.Call (.Name x p) (e :: es) [] pos) (tMake C sp [] E0 t) :=
  pe_make c.M c.G (hr.mono hk) hg c.g c.b .nil pass0 ha hdb he hpl
theorem pe_me {pl : Sem Bool} (c : Met X.prog X.w X.K X.mg X.base k C m ps sp) (hr : Room j X.A) (hk : k ≤ j) (he : PE X o to) (ha : L2.PA X (e :: es) t)
    (hst : starEach (e :: es) X.env = (false, eval e X.env) :: starEach es X.env := by rfl) (hpl : (backTo pos (starEach es X.env)).any (·.1) = false := by rfl)
    (ht : eval (.Call (.Attribute o m apos) (e :: es) [] pos) X.env = (do
      let ov ← eval o X.env
      standAt apos.atName
      let (f, first) ← holding [ov] (getMethod ov m pl)
      callWith pos f first (backTo pos (starEach (e :: es) X.env)) (backToKw pos (keywordEach [] X.env))) := by rfl) : PE X (.Call (.Attribute o m apos) (e :: es) [] pos) (tMeth C m sp [] E0 to t) :=
  pe_meth he c.c c.m c.G (hr.mono hk) c.b .nil pass0 ha hst hpl ht
end
abbrev sLot : Stmt := top 24
abbrev sAsked : Stmt := top 25
/-- a right lot -/
structure LotOk (gs : List (List Fc)) (ns : List Nat) : Prop where
  len : ns.length ≤ 60
  bnd : ∀ n ∈ ns, n < gs.length
  asc : ∀ (i x y : Nat), ns[i]? = some x → ns[i + 1]? = some y → x < y
def spLot (C : Addr) : Sp := fun vs H Q _ => ∃ (r lt dr ca ga : Addr) (cs : List Cz) (gs : List (List Fc)) (ns : List Nat), vs = [.ref r, .ref lt] ∧ RuleAt H C r dr ca ga cs gs ∧ GR cs gs ∧ H lt = some (.tup (nI ns)) ∧ LotOk gs ns ∧ ∀ H', Same H H' → Q .non H'
def spAsked (C : Addr) : Sp := fun vs H Q _ => ∃ (r lt a dr ca ga : Addr) (cs : List Cz) (gs : List (List Fc)) (ns : List Nat) (f : Fc), vs = [.ref r, .ref lt, .ref a] ∧ RuleAt H C r dr ca ga cs gs ∧ GR cs gs ∧ H lt = some (.tup (nI ns)) ∧ LotOk gs ns ∧ FactAt H a f ∧ GF f ∧ ∀ H', Same H H' → Q .non H'
theorem RuleAt.same {H H' : Hp} {C r dx ca ga : Addr} {cs : List Cz} {gs : List (List Fc)} (h : RuleAt H C r dx ca ga cs gs) (s : Same H H') : RuleAt H' C r dx ca ga cs gs := h.keep (.same s) ((s _ _ h.1).trans h.1.symm)
section
variable {P : Program} {w : World} {K : PySem.W.Frag} {mg : Str → Option Value} {base : Heap} {C D : Addr}
theorem scLot : FnScope ["rule", "lot", "at"] ["rule", "lot"] (defScope sLot) := ⟨rfl, rfl, rfl, by decide +kernel, rfl, by decide +kernel, by decide +kernel⟩
theorem ok_lot {f : Addr} {fd : FuncData} {k : Nat} (F : Fun K "check_lot" "check_lot" sLot f fd) (T : Tx mg) (rc : RuC K C) (cB : Cal P w K mg base (k + 1) "is_below" ["bound", "thing"] spBelow) (cA : Cal P w K mg base (k + 1) "ascends" ["things"] spAsc) : FnOk P w K mg base CX0 (k + 2) f fd ["rule", "lot"] (spLot C) := by
  refine F.ok scLot (fun vs H Q E h => ?_) (fun cdv A outer s H vs Q E hr h => ?_)
  · obtain ⟨r, lt, dr, ca, ga, cs, gs, ns, rfl, _⟩ := h
    rfl
  · obtain ⟨r, lt, dr, ca, ga, cs, gs, ns, rfl, hR, hG, hlt, hL, q⟩ := h
    refine ⟨_, (pss_one (ps_if (pt_or (pt_not (pt_val (pe_callB call_isTh (by rfl) T.isi (by decide +kernel) (pa_cons (pv 1) (pa_cons (pe_bltn (v := .ty "tuple") (u := .type "tuple") (by rfl) T.tuple_ (by decide +kernel) rfl) pa_nil))))) (pw_or (pt_not (pt_val (pe_callB (cr_all rfl) (by rfl) T.all_ (by decide +kernel) (pa_cons (pe_lc (own := [("at", 2)]) (g := gName 2) (te := tCall spBelow [] E0 (tCons (tCB (fun xs H Q => ∃ p ys, xs = [.ref p] ∧ (SqL K H p ys ∨ SqT K H p ys) ∧ Q (.int ys.length) H) (tCons (tFld K (tVar 0) "grounds") tNil)) (tCons (tVar 2) tNil))) rfl scLot.nd (pi_tup (pv 1)) (blkOk_by (N := ["rule", "lot", "at"]) (sc := defScope sLot) (by decide +kernel)) (fun _ _ _ _ _ => pg_name (i := 2) scLot.nd rfl (Or.inl rfl)) (fun _ _ _ _ _ => pts_nil) (fun _ _ _ _ _ => (pe_c cB hr (by omega) (by rfl) (pa_cons (pe_callB call_len_seq (by rfl) T.len_ PySem.boot_len (pa_cons (pe_fld (pv 0) rfl) pa_nil)) (pa_cons (pv 2) pa_nil))))) pa_nil)))) (pw_or1 (pt_not (pt_val (pe_c cA hr (by omega) (by rfl) (pa_cons (pv 1) pa_nil))))))) pss_never pss_nil)), ?_⟩
    obtain ⟨gas, hga, hgp⟩ := id hR.2.2
    have lg := Paired.len hgp
    have lns : (nI ns).length = ns.length := by unfold nI; simp
    refine ⟨_, rfl, _, "tuple", _, rfl, .tup hlt, by decide, _, rfl, iteF ?_⟩
    refine ⟨_, rfl, lt, rfl, ⟨_, .of hlt⟩, fun Da nDa => ?_⟩
    refine lcP walk_tup (fun _ => V.bl true) (by rw [lns]; exact Nat.lt_of_le_of_lt hL.len (by decide)) nDa (fun _ sm => seqT sm (.of hlt)) ?_ ?_
    · rintro j y H3 H4 Q' hj sm ⟨rfl, hy⟩ hq
      obtain ⟨n, hn, rfl⟩ := nI_at hy
      have hb := hL.bnd n (List.mem_of_getElem? hn)
      refine ⟨rfl, _, rfl, r, C, dr, _, _, rfl, sm _ _ hR.1, rc.cls, rc.na _ (by simp), rfl, ga, _, rfl, .inr (.of (sm _ _ hga)), _, rfl, r, _, _, rfl, .int _, ?_⟩
      have eb : belowV (((gas.map V.ref).length : Nat) : Int) (.int (n : Nat)) = true := decide_eq_true ⟨Int.natCast_nonneg _, by rw [List.length_map, lg]; omega⟩
      rw [eb]
      exact hq _ (Same.refl _)
    · intro H1 s1 hd
      refine ⟨Da, (List.range (nI ns).length).map fun _ => true, rfl, .inl (.inl (by rw [hd, List.map_map]; rfl)), ?_⟩
      rw [all_tt]
      refine ⟨_, rfl, iteF ?_⟩
      refine ⟨_, rfl, .inl ⟨lt, ns.map fun (n : Nat) => (n : Int), rfl, ?_, ?_, ?_, fun H2 s2 => ⟨_, rfl, iteF (q _ (s1.trans s2))⟩⟩⟩
      · rw [s1 _ _ hlt]; unfold nI; rw [List.map_map]; rfl
      · rw [List.length_map]; have := hL.len; omega
      · intro i x y hx hy
        rw [List.getElem?_map] at hx hy
        cases ex : ns[i]? with
        | none => rw [ex] at hx; cases hx
        | some n =>
          cases ey : ns[i + 1]? with
          | none => rw [ey] at hy; cases hy
          | some m =>
            rw [ex] at hx; rw [ey] at hy
            cases hx; cases hy
            have := hL.asc i n m ex ey
            show (n : Int) < (m : Int)
            omega
theorem scAsked : FnScope ["rule", "lot", "fact"] ["rule", "lot", "fact"] (defScope sAsked) := ⟨rfl, rfl, rfl, by decide +kernel, rfl, by decide +kernel, by decide +kernel⟩
theorem ok_asked {f : Addr} {fd : FuncData} {k : Nat} (F : Fun K "check_asked" "check_asked" sAsked f fd) (T : Tx mg) (cL : Cal P w K mg base (k + 2) "check_lot" ["rule", "lot"] (spLot C)) (cF : Cal P w K mg base (k + 2) "is_fact" ["thing"] spFact) : FnOk P w K mg base CX0 (k + 3) f fd ["rule", "lot", "fact"] (spAsked C) := by
  refine F.ok scAsked (fun vs H Q E h => ?_) (fun cdv A outer s H vs Q E hr h => ?_)
  · obtain ⟨r, lt, a, dr, ca, ga, cs, gs, ns, g, rfl, _⟩ := h
    rfl
  · obtain ⟨r, lt, a, dr, ca, ga, cs, gs, ns, g, rfl, hR, hG, hlt, hL, hf, hg, q⟩ := h
    refine ⟨_, (pss_cons (ps_expr (pe_c cL hr (by omega) (by rfl) (pa_cons (pv 0) (pa_cons (pv 1) pa_nil)))) (pss_one (ps_if (pt_not (pt_val (pe_c cF hr (by omega) (by rfl) (pa_cons (pv 2) pa_nil)))) pss_never pss_nil))), ?_⟩
    refine ⟨_, rfl, _, rfl, r, lt, dr, ca, ga, cs, gs, ns, rfl, hR, hG, hlt, hL, fun H1 s1 => ?_⟩
    have nt : NoTup H1 r := fun xs e => by rw [s1 _ _ hR.1] at e; cases e
    refine ⟨_, rfl, r, _, rfl, thg_fact nt (s1 _ _ hf) hg, fun H2 s2 => ?_⟩
    rw [factB_ok (s1 _ _ hf) hg]
    exact ⟨_, rfl, iteF (q _ (s1.trans s2))⟩
end
end L2.My
end
section
set_option Elab.async false
set_option linter.all false
set_option maxRecDepth 100000
set_option maxHeartbeats 4000000
namespace L2.My
open PySem PySem.Spec PyProof.Rows
/-! ### the law's hand -/
abbrev sHand : Stmt := top 33
abbrev sDraw : Stmt := top 34
abbrev sAny : Stmt := top 35
def HandAt (H : Hp) (b g : Addr) : Prop := ∃ (ns : List Int) (at' big s c : Int), H b = some (.lst [.ref g, .int at', .int big, .int s, .int c]) ∧ H g = some (.lst (ns.map V.int)) ∧ g ≠ b ∧ 0 ≤ at' ∧ ∀ x ∈ ns, 0 ≤ x
theorem HandAt.tk {H H' : Hp} {b g : Addr} (h : HandAt H b g) (s : BL [b] H H') : TK H H' := by
  obtain ⟨ns, at', big, sd, c, hb, _⟩ := h
  exact TK.bl s fun p hp xs e => by rw [List.mem_singleton.mp hp, hb] at e; cases e
theorem HandAt.same {H H' : Hp} {b g : Addr} (h : HandAt H b g) (s : Same H H') : HandAt H' b g := by
  obtain ⟨ns, at', big, sd, c, hb, hg, r⟩ := h
  exact ⟨ns, at', big, sd, c, s _ _ hb, s _ _ hg, r⟩
theorem HandAt.put {H : Hp} {b g D : Addr} {o : HO} (h : HandAt H b g) (hb : D ≠ b) (hg : D ≠ g) : HandAt (L2.upd H D o) b g := by
  obtain ⟨ns, at', big, sd, c, h1, h2, r⟩ := h
  exact ⟨ns, at', big, sd, c, by rw [upd_ne (Ne.symm hb)]; exact h1, by rw [upd_ne (Ne.symm hg)]; exact h2, r⟩
theorem HandAt.nb {H : Hp} {b g D : Addr} (h : HandAt H b g) (n : H D = none) : D ≠ b := fun e => by
  obtain ⟨_, _, _, _, _, h1, _⟩ := h
  rw [e, h1] at n; cases n
theorem HandAt.ng {H : Hp} {b g D : Addr} (h : HandAt H b g) (n : H D = none) : D ≠ g := fun e => by
  obtain ⟨_, _, _, _, _, _, h1, _⟩ := h
  rw [e, h1] at n; cases n
def spHand (K : PySem.W.Frag) : Sp := fun vs H Q _ => ∃ (a : Addr) (ns : List Int), vs = [.ref a] ∧ SqL K H a (ns.map V.int) ∧ ∀ H' b g, Same H H' → H b = none → H g = none → HandAt H' b g → Q (.ref b) H'
def spDraw : Sp := fun vs H Q _ => ∃ (b g : Addr) (m : Int), vs = [.ref b, .int m] ∧ HandAt H b g ∧ 0 < m ∧ m < 1073741824 ∧ ∀ H' r, BL [b] H H' → HandAt H' b g → 0 ≤ r → r < m → Q (.int r) H'
def spAny : Sp := fun vs H Q _ => ∃ (b g t : Addr) (xs : List V), vs = [.ref b, .ref t] ∧ HandAt H b g ∧ H t = some (.lst xs) ∧ t ≠ b ∧ xs ≠ [] ∧ xs.length < 1073741824 ∧ ∀ H' v, BL [b] H H' → HandAt H' b g → v ∈ xs → Q v H'
theorem seq_use {t u : TS} {D : Ends} {σ : St} {H : Hp} (Pm : St → Hp → Prop) (h2 : ∀ σ' H', Pm σ' H' → u D σ' H') (h1 : (∀ σ' H', Pm σ' H' → u D σ' H') → t { D with nx := u D } σ H) : tSeq t u D σ H := h1 h2
section
variable {P : Program} {w : World} {K : PySem.W.Frag} {mg : Str → Option Value} {base : Heap}
theorem scHand : FnScope ["script", "cell", "cells"] ["script"] (defScope sHand) := ⟨rfl, rfl, rfl, by decide +kernel, rfl, by decide +kernel, by decide +kernel⟩
theorem ok_hand {f : Addr} {fd : FuncData} {k : Nat} (F : Fun K "_law_hand" "_law_hand" sHand f fd) (T : Tx mg) : FnOk P w K mg base CX0 (k + 1) f fd ["script"] (spHand K) := by
  refine F.ok scHand (fun vs H Q E h => ?_) (fun cdv A outer s H vs Q E hr h => ?_)
  · obtain ⟨a, ns, rfl, _⟩ := h
    rfl
  · obtain ⟨a, ns, rfl, hS, q⟩ := h
    refine ⟨_, (pss_cons (ps_setLc (own := [("cell", 1)]) (i := 2) (g := gName 1) rfl scHand.nd rfl rfl (sw_true rfl rfl rfl (by decide +kernel)) (pi_list (pe_slice sl_list (pv 0) po_none (po_some pe_int))) (blkOk_by (N := ["script", "cell", "cells"]) (sc := defScope sHand) (by decide +kernel)) (fun _ _ _ _ _ => pg_name (i := 1) scHand.nd rfl (Or.inl rfl)) (fun _ _ _ _ _ => pts_nil) (fun _ _ _ _ _ => (pe_callB call_abs (by rfl) T.abs_ (by decide +kernel) (pa_cons (pe_callTy call_int1 (by rfl) T.int_ (by decide +kernel) (pa_cons (pv 1) pa_nil)) pa_nil)))) (pss_one (ps_ret (pe_lst (pa_cons (pv 2) (pa_cons pe_int (pa_cons pe_int (pa_cons (pe_op op_add pe_int (pe_callB call_len_seq (by rfl) T.len_ PySem.boot_len (pa_cons (pv 2) pa_nil))) (pa_cons pe_int pa_nil))))))))), ?_⟩
    refine ⟨.ref a, rfl, 63, rfl, a, ns.map V.int, rfl, hS, fun c nc => ?_⟩
    have ec : cutV (ns.map V.int) none (some 63) = (ns.take 63).map V.int := by
      rw [List.map_take]
      exact cutTo _ 63
    rw [ec]
    refine ⟨c, rfl, ⟨_, SqL.of upd_same⟩, fun D hD => ?_⟩
    have s1 : Same H (upd H c (.lst ((ns.take 63).map V.int))) := same_upd nc
    have hl : ((ns.take 63).map V.int).length ≤ 63 := by rw [List.length_map, List.length_take]; omega
    refine lcP (walk_list (xs := (ns.take 63).map V.int)) (fun i => V.int (if (ns.take 63).getD i 0 < 0 then -((ns.take 63).getD i 0) else (ns.take 63).getD i 0)) (Nat.lt_of_le_of_lt hl (by decide)) hD (fun _ sm => SqL.of (sm _ _ upd_same)) ?_ ?_
    · rintro i x H3 H4 Q' hi sm ⟨rfl, hx⟩ hq
      obtain ⟨n, hn, rfl⟩ : ∃ n, (ns.take 63)[i]? = some n ∧ x = V.int n := by
        rw [List.getElem?_map] at hx
        cases e : (ns.take 63)[i]? with
        | none => rw [e] at hx; cases hx
        | some u => rw [e] at hx; exact ⟨u, rfl, (Option.some.inj hx).symm⟩
      have e3 : (ns.take 63).getD i 0 = n := by rw [List.getD_eq_getElem?_getD, hn]; rfl
      rw [e3] at hq
      exact ⟨rfl, _, rfl, .inl ⟨n, rfl, n, rfl, hq _ (Same.refl _)⟩⟩
    · intro H3 sm hd
      generalize hfs : ((List.range ((ns.take 63).map V.int).length).map fun i => V.int (if (ns.take 63).getD i 0 < 0 then -((ns.take 63).getD i 0) else (ns.take 63).getD i 0)) = fs at *
      obtain ⟨is, hfs2, hpos⟩ : ∃ is : List Int, fs = is.map V.int ∧ ∀ x ∈ is, 0 ≤ x := by
        refine ⟨(List.range ((ns.take 63).map V.int).length).map fun i => (if (ns.take 63).getD i 0 < 0 then -((ns.take 63).getD i 0) else (ns.take 63).getD i 0), by rw [← hfs, List.map_map]; rfl, fun y hy => ?_⟩
        obtain ⟨i, _, rfl⟩ := List.mem_map.mp hy
        split <;> omega
      refine ⟨_, rfl, _, rfl, D, _, rfl, .inl (SqL.of hd), _, _, rfl, rfl, by show 5 ≤ sizeLine; decide, fun b nb => ?_⟩
      have sH : Same H H3 := s1.trans sm
      have s4 := same_upd (o := HO.lst [.ref D, .int 0, .int 0, .int (1 + (fs.length : Nat)), .int 0]) nb
      refine q _ b D (sH.trans s4) (sH.free nb) (s1.free hD) ⟨is, 0, 0, _, 0, upd_same, ?_, (fun e => by rw [e, nb] at hd; cases hd), by decide, hpos⟩
      rw [← hfs2]; exact s4 _ _ hd
theorem scDraw : FnScope ["hand", "many", "cell", "digit", "number"] ["hand", "many"] (defScope sDraw) := ⟨rfl, rfl, rfl, by decide +kernel, rfl, by decide +kernel, by decide +kernel⟩
theorem ok_draw {f : Addr} {fd : FuncData} {k : Nat} (F : Fun K "_law_draw" "_law_draw" sDraw f fd) (T : Tx mg) : FnOk P w K mg base CX0 (k + 1) f fd ["hand", "many"] spDraw := by
  refine F.ok scDraw (fun vs H Q E h => ?_) (fun cdv A outer s H vs Q E hr h => ?_)
  · obtain ⟨b, g, m, rfl, _⟩ := h
    rfl
  · obtain ⟨b, g, m, rfl, ⟨ns, at', big, sd, c, hb, hg, ngb, ha, hp⟩, hm0, hm1, q⟩ := h
    refine ⟨_, (pss_cons (ps_if (pt_and (pt_cmpR op_eq (pe_ix ix_list (pv 0) pe_int (fun _ _ => rfl)) pe_int (nomark _)) (pw_and1 (pt_cmpR op_lt (pe_ix ix_list (pv 0) pe_int (fun _ _ => rfl)) (pe_callB call_len_seq (by rfl) T.len_ PySem.boot_len (pa_cons (pe_ix ix_list (pv 0) pe_int (fun _ _ => rfl)) pa_nil)) (nomark _)))) (pss_cons (ps_set (i := 2) scDraw.nd rfl (Or.inl rfl) (pe_ix ix_list (pe_ix ix_list (pv 0) pe_int (fun _ _ => rfl)) (pe_ix ix_list (pv 0) pe_int (fun _ _ => rfl)) (fun _ _ => rfl))) (pss_cons (ps_asg (pe_op op_add (pe_ix ix_list (pv 0) pe_int (fun _ _ => rfl)) pe_int) (pg_sub (pv 0) pe_int set_list)) (pss_cons (ps_asg (pe_op op_mod (pe_callTy call_int1 (by rfl) T.int_ (by decide +kernel) (pa_cons (pe_op op_add (pe_op op_add (pe_op op_mul (pe_ix ix_list (pv 0) pe_int (fun _ _ => rfl)) pe_int) (pv 2)) pe_int) pa_nil)) pe_int) (pg_sub (pv 0) pe_int set_list)) (pss_one (ps_if (pt_cmpR op_ge (pv 2) (pe_op op_pow pe_int pe_int) (nomark _)) (pss_one (ps_asg (pv 2) (pg_sub (pv 0) pe_int set_list))) pss_nil))))) pss_nil) (pss_cons (ps_if (pt_cmpR op_gt (pe_ix ix_list (pv 0) pe_int (fun _ _ => rfl)) pe_int (nomark _)) (pss_cons (ps_set (i := 3) scDraw.nd rfl (Or.inl rfl) (pe_op op_mod (pe_callTy call_int1 (by rfl) T.int_ (by decide +kernel) (pa_cons (pe_ix ix_list (pv 0) pe_int (fun _ _ => rfl)) pa_nil)) (pv 1))) (pss_cons (ps_asg (pe_op op_fdiv (pe_ix ix_list (pv 0) pe_int (fun _ _ => rfl)) (pv 1)) (pg_sub (pv 0) pe_int set_list)) (pss_one (ps_ret (pv 3))))) pss_nil) (pss_cons (ps_asg (pe_op op_add (pe_ix ix_list (pv 0) pe_int (fun _ _ => rfl)) pe_int) (pg_sub (pv 0) pe_int set_list)) (pss_cons (ps_set (i := 4) scDraw.nd rfl (Or.inl rfl) (pe_op op_mod (pe_callTy call_int1 (by rfl) T.int_ (by decide +kernel) (pa_cons (pe_op op_mul (pe_callTy call_int1 (by rfl) T.int_ (by decide +kernel) (pa_cons (pe_op op_add (pe_ix ix_list (pv 0) pe_int (fun _ _ => rfl)) (pe_op op_mul pe_int (pe_ix ix_list (pv 0) pe_int (fun _ _ => rfl)))) pa_nil)) pe_int) pa_nil)) pe_int)) (pss_cons (ps_set (i := 4) scDraw.nd rfl (Or.inl rfl) (pe_op op_mod (pe_callTy call_int1 (by rfl) T.int_ (by decide +kernel) (pa_cons (pe_op op_mul (pv 4) (pe_op op_add (pe_op op_fdiv (pv 4) pe_int) pe_int)) pa_nil)) pe_int)) (pss_cons (ps_set (i := 4) scDraw.nd rfl (Or.inl rfl) (pe_op op_mod (pe_callTy call_int1 (by rfl) T.int_ (by decide +kernel) (pa_cons (pe_op op_mul (pv 4) (pe_op op_add (pe_op op_fdiv (pv 4) pe_int) pe_int)) pa_nil)) pe_int)) (pss_one (ps_ret (pe_op op_mod (pe_callTy call_int1 (by rfl) T.int_ (by decide +kernel) (pa_cons (pe_op op_fdiv (pv 4) pe_int) pa_nil)) (pv 1)))))))))), ?_⟩
    have a0 : ∀ {q1 q2 q3 q4 : Int}, atI ([.ref g, .int q1, .int q2, .int q3, .int q4] : List V) 0 = some (.ref g) := rfl
    have a1 : ∀ {q1 q2 q3 q4 : Int}, atI ([.ref g, .int q1, .int q2, .int q3, .int q4] : List V) 1 = some (.int q1) := rfl
    have a2 : ∀ {q1 q2 q3 q4 : Int}, atI ([.ref g, .int q1, .int q2, .int q3, .int q4] : List V) 2 = some (.int q2) := rfl
    have a3 : ∀ {q1 q2 q3 q4 : Int}, atI ([.ref g, .int q1, .int q2, .int q3, .int q4] : List V) 3 = some (.int q3) := rfl
    have a4 : ∀ {q1 q2 q3 q4 : Int}, atI ([.ref g, .int q1, .int q2, .int q3, .int q4] : List V) 4 = some (.int q4) := rfl
    refine seq_use (fun σ G => ∃ (y2 : Option V) (at1 big1 s1 : Int), σ = [some (.ref b), some (.int m), y2, none, none] ∧ BL [b] H G ∧ G b = some (.lst [.ref g, .int at1, .int big1, .int s1, .int c]) ∧ G g = some (.lst (ns.map V.int)) ∧ 0 ≤ at1) ?_ (fun hrest => ?_)
    · rintro σ G ⟨y2, at1, big1, s1, rfl, bl, hb1, hg1, ha1⟩
      refine ⟨_, rfl, b, _, _, _, rfl, rfl, .of hb1, a2, _, _, rfl, rfl, _, rfl, ?_⟩
      refine ite2 (fun _ => ?_) (fun _ => ?_)
      · refine ⟨_, rfl, b, _, _, _, rfl, rfl, .of hb1, a2, .inl ⟨big1, rfl, _, rfl, _, _, rfl, rfl, hm0, ?_⟩⟩
        refine ⟨_, rfl, b, _, _, _, rfl, rfl, .of hb1, a2, _, rfl, _, _, rfl, rfl, ⟨hm0, hm1⟩, _, rfl, b, _, _, 2, rfl, rfl, hb1, rfl, ?_⟩
        refine ⟨_, rfl, q _ _ (bl.trans (.upd (by simp))) ⟨ns, at1, big1 / m, s1, c, upd_same, ?_, ngb, ha1, hp⟩ (mod_in hm0).1 (mod_in hm0).2⟩
        rw [upd_ne ngb]; exact hg1
      · refine ⟨_, rfl, b, _, _, _, rfl, rfl, .of hb1, a4, _, _, rfl, rfl, _, rfl, b, _, _, 4, rfl, rfl, hb1, rfl, ?_⟩
        have e4 : ([.ref g, .int at1, .int big1, .int s1, .int c] : List V).set 4 (.int (c + 1)) = [.ref g, .int at1, .int big1, .int s1, .int (c + 1)] := rfl
        dsimp only
        rw [e4]
        have hb2 : (upd G b (.lst [.ref g, .int at1, .int big1, .int s1, .int (c + 1)])) b = some (.lst [.ref g, .int at1, .int big1, .int s1, .int (c + 1)]) := upd_same
        refine ⟨_, rfl, b, _, _, _, rfl, rfl, .of hb2, a3, _, rfl, b, _, _, _, rfl, rfl, .of hb2, a4, _, _, rfl, rfl, .inl ⟨by decide, by decide⟩, _, _, rfl, rfl, .inl ⟨_, rfl, _, _, rfl, rfl, .inr ⟨by decide, by decide⟩, .inl ⟨_, rfl, _, _, rfl, rfl, (by show (0 : Int) < 2147483647; decide), ?_⟩⟩⟩
        generalize hn1 : ((s1 + 7919 * (c + 1)) * 48271 % 2147483647 : Int) = n1
        have r1 : 0 ≤ n1 ∧ n1 < 2147483647 := by
          rw [← hn1]
          exact mod_in (by decide)
        refine ⟨_, rfl, _, rfl, _, _, rfl, rfl, ⟨by decide, by decide⟩, _, _, rfl, rfl, _, _, rfl, rfl, .inl ⟨by omega, by omega⟩, .inl ⟨_, rfl, _, _, rfl, rfl, (by show (0 : Int) < 2147483647; decide), ?_⟩⟩
        generalize hn2 : (n1 * (n1 / 1009 + 69621) % 2147483647 : Int) = n2
        have r2 : 0 ≤ n2 ∧ n2 < 2147483647 := by
          rw [← hn2]
          exact mod_in (by decide)
        refine ⟨_, rfl, _, rfl, _, _, rfl, rfl, ⟨by decide, by decide⟩, _, _, rfl, rfl, _, _, rfl, rfl, .inl ⟨by omega, by omega⟩, .inl ⟨_, rfl, _, _, rfl, rfl, (by show (0 : Int) < 2147483399; decide), ?_⟩⟩
        refine ⟨_, rfl, _, _, rfl, rfl, ⟨by decide, by decide⟩, .inl ⟨_, rfl, _, rfl, _, _, rfl, rfl, hm0, ?_⟩⟩
        refine q _ _ (bl.trans (.upd (by simp))) ⟨ns, at1, big1, s1, c + 1, upd_same, ?_, ngb, ha1, hp⟩ (mod_in hm0).1 (mod_in hm0).2
        rw [upd_ne ngb]; exact hg1
    · refine ⟨_, rfl, b, _, _, _, rfl, rfl, .of hb, a2, rfl, _, rfl, ?_⟩
      refine ite2 (fun _ => ?_) (fun _ => ?_)
      · refine ⟨_, rfl, b, _, _, _, rfl, rfl, .of hb, a1, _, rfl, b, _, _, _, rfl, rfl, .of hb, a0, g, _, rfl, .inl (.of hg), _, _, rfl, rfl, _, rfl, ?_⟩
        refine ite2 (fun hl => ?_) (fun _ => ?_)
        · have hl2 := of_decide_eq_true hl
          rw [List.length_map] at hl2
          obtain ⟨j, rfl⟩ : ∃ j : Nat, at' = j := ⟨at'.toNat, by omega⟩
          have hj : j < ns.length := by omega
          refine ⟨_, rfl, b, _, _, _, rfl, rfl, .of hb, a0, _, rfl, b, _, _, _, rfl, rfl, .of hb, a1, g, _, _, .int ns[j], rfl, rfl, .of hg, atI_nat (by rw [List.getElem?_map, List.getElem?_eq_getElem hj]; rfl), ?_⟩
          refine ⟨_, rfl, b, _, _, _, rfl, rfl, .of hb, a1, _, _, rfl, rfl, _, rfl, b, _, _, 1, rfl, rfl, hb, rfl, ?_⟩
          have e1 : ([.ref g, .int (j : Int), .int big, .int sd, .int c] : List V).set 1 (.int ((j : Int) + 1)) = [.ref g, .int ((j : Int) + 1), .int big, .int sd, .int c] := rfl
          dsimp only
          rw [e1]
          have hb2 : (upd H b (.lst [.ref g, .int ((j : Int) + 1), .int big, .int sd, .int c])) b = some (.lst [.ref g, .int ((j : Int) + 1), .int big, .int sd, .int c]) := upd_same
          refine ⟨_, rfl, b, _, _, _, rfl, rfl, .of hb2, a3, _, _, rfl, rfl, .inr ⟨by decide, by decide⟩, _, rfl, _, _, rfl, rfl, _, _, rfl, rfl, .inl ⟨_, rfl, _, _, rfl, rfl, (by show (0 : Int) < 2147483629; decide), _, rfl, b, _, _, 3, rfl, rfl, hb2, rfl, ?_⟩⟩
          rw [upd_upd]
          dsimp only
          generalize hs3 : ((sd * 69621 + ns[j] + 11) % 2147483629 : Int) = s3
          have e3 : ([.ref g, .int ((j : Int) + 1), .int big, .int sd, .int c] : List V).set 3 (.int s3) = [.ref g, .int ((j : Int) + 1), .int big, .int s3, .int c] := rfl
          rw [e3]
          have hb3 : (upd H b (.lst [.ref g, .int ((j : Int) + 1), .int big, .int s3, .int c])) b = some (.lst [.ref g, .int ((j : Int) + 1), .int big, .int s3, .int c]) := upd_same
          refine ⟨_, rfl, _, _, rfl, rfl, ⟨by decide, by decide, by decide⟩, _, _, rfl, rfl, _, rfl, ?_⟩
          refine ite2 (fun _ => ?_) (fun _ => ?_)
          · refine ⟨_, rfl, _, rfl, b, _, _, 2, rfl, rfl, hb3, rfl, ?_⟩
            rw [upd_upd]
            refine hrest _ _ ⟨_, (j : Int) + 1, ns[j], s3, rfl, .upd (by simp), upd_same, ?_, by omega⟩
            rw [upd_ne ngb]; exact hg
          · refine hrest _ _ ⟨_, (j : Int) + 1, big, s3, rfl, .upd (by simp), upd_same, ?_, by omega⟩
            rw [upd_ne ngb]; exact hg
        · exact hrest _ _ ⟨_, at', big, sd, rfl, .refl, hb, hg, ha⟩
      · exact hrest _ _ ⟨_, at', big, sd, rfl, .refl, hb, hg, ha⟩
theorem scAny : FnScope ["hand", "items"] ["hand", "items"] (defScope sAny) := ⟨rfl, rfl, rfl, by decide +kernel, rfl, by decide +kernel, by decide +kernel⟩
theorem ok_any {f : Addr} {fd : FuncData} {k : Nat} (F : Fun K "_law_any" "_law_any" sAny f fd) (T : Tx mg) (cD : Cal P w K mg base (k + 1) "_law_draw" ["hand", "many"] spDraw) : FnOk P w K mg base CX0 (k + 2) f fd ["hand", "items"] spAny := by
  refine F.ok scAny (fun vs H Q E h => ?_) (fun cdv A outer s H vs Q E hr h => ?_)
  · obtain ⟨b, g, t, xs, rfl, _⟩ := h
    rfl
  · obtain ⟨b, g, t, xs, rfl, hB, hS, ntb, hne, hlen, q⟩ := h
    refine ⟨_, (pss_one (ps_ret (pe_ix ix_list (pv 1) (pe_c cD hr (by omega) (by rfl) (pa_cons (pv 0) (pa_cons (pe_callB call_len_seq (by rfl) T.len_ PySem.boot_len (pa_cons (pv 1) pa_nil)) pa_nil))) (fun _ _ => rfl)))), ?_⟩
    have hl : 0 < xs.length := List.length_pos_iff.mpr hne
    refine ⟨_, rfl, _, rfl, _, rfl, t, xs, rfl, .inl (.of hS), ?_⟩
    refine ⟨b, g, _, rfl, hB, by omega, by omega, fun H' r hbl hB' h0 h1 => ?_⟩
    have hS' := hbl _ _ (by simpa using ntb) hS
    have hr' : r.toNat < xs.length := by omega
    have er : xs[r.toNat]? = some xs[r.toNat] := List.getElem?_eq_getElem hr'
    have ea := atI_nat er
    rw [Int.toNat_of_nonneg h0] at ea
    exact ⟨t, xs, r, _, rfl, rfl, .of hS', ea, q _ _ hbl hB' (List.getElem_mem hr')⟩
end
end L2.My
end
section
set_option Elab.async false
set_option linter.all false
set_option maxRecDepth 100000
set_option maxHeartbeats 4000000
namespace L2.My
open PySem PySem.Spec PyProof.Rows
abbrev sHeld : Stmt := top 26
theorem der_gf {cs : List Cz} {gs : List (List Fc)} {ns : List Nat} (hG : GR cs gs) {f : Fc} (d : Der cs (Gof gs ns) none f) : GF f := by
  refine d.closed (S := GF) (fun f h => ?_) fun i b h e _ _ => (hG.cl _ (List.mem_of_getElem? e)).2.2
  obtain ⟨n, _, g, hg, hf⟩ := h
  exact hG.gr g (List.mem_of_getElem? hg) f hf
/-- a list of all that holds, ascending -/
def HeldL (H : Hp) (l : Addr) (S : Fc → Prop) : Prop := ∃ (as : List Addr) (fs : List Fc), H l = some (.lst (as.map .ref)) ∧ Paired (FactAt H) as fs ∧ UpF fs ∧ fs.Nodup ∧ (∀ f, f ∈ fs ↔ S f) ∧ fs.length ≤ 100000
def spHeld (C : Addr) : Sp := fun vs H Q _ => ∃ (r lt dr ca ga : Addr) (cs : List Cz) (gs : List (List Fc)) (ns : List Nat), vs = [.ref r, .ref lt] ∧ RuleAt H C r dr ca ga cs gs ∧ GR cs gs ∧ H lt = some (.tup (nI ns)) ∧ LotOk gs ns ∧
  ∀ H' l, Same H H' → HeldL H' l (Der cs (Gof gs ns) none) → Q (.ref l) H'
open Classical in
/-- the round as it is told -/
noncomputable def rdV (cs : List Cz) (G : Fc → Prop) (f : Fc) : V := if h : ∃ t, Rd1 cs G f t then .int (h.choose : Nat) else .non
theorem rdV_at {cs : List Cz} {G : Fc → Prop} {f : Fc} {t : Nat} (h : Rd1 cs G f t) : rdV cs G f = .int (t : Nat) := by
  have e : ∃ t, Rd1 cs G f t := ⟨t, h⟩
  unfold rdV
  rw [dif_pos e, e.choose_spec.uniq h]
theorem rdV_no {cs : List Cz} {G : Fc → Prop} {f : Fc} (h : ¬ Der cs G none f) : rdV cs G f = .non := by
  unfold rdV
  rw [dif_neg fun ⟨t, z⟩ => h z.1.der]
section
variable {P : Program} {w : World} {K : PySem.W.Frag} {mg : Str → Option Value} {base : Heap} {C D : Addr}
theorem scHe : FnScope ["rule", "lot"] ["rule", "lot"] (defScope sHeld) := ⟨rfl, rfl, rfl, by decide +kernel, rfl, by decide +kernel, by decide +kernel⟩
theorem ok_held {f : Addr} {fd : FuncData} {k : Nat} (F : Fun K "held" "held" sHeld f fd) (T : Tx mg) (rc : RuC K C) (dc : DeC K D) (cL : Cal P w K mg base (k + 2) "check_lot" ["rule", "lot"] (spLot C)) (cDe : Mak P w K mg base (k + 1) D "Deriver" ["self", "rule"] (spDer C D)) (cDd : Met P w K mg base (k + 1) D "derived" ["self", "lot"] (spDerived C D)) :
    FnOk P w K mg base CX0 (k + 4) f fd ["rule", "lot"] (spHeld C) := by
  refine F.ok scHe (fun vs H Q E h => ?_) (fun cdv A outer s H vs Q E hr h => ?_)
  · obtain ⟨r, lt, dr, ca, ga, cs, gs, ns, rfl, _⟩ := h
    rfl
  · obtain ⟨r, lt, dr, ca, ga, cs, gs, ns, rfl, hR, hG, hlt, hL, q⟩ := h
    refine ⟨_, (pss_cons (ps_expr (pe_c cL hr (by omega) (by rfl) (pa_cons (pv 0) (pa_cons (pv 1) pa_nil)))) (pss_one (ps_ret (pe_callB (cr_sortDT rfl) (by rfl) T.sorted_ (by decide +kernel) (pa_cons (pe_me cDd hr (by omega) (pe_mk cDe hr (by omega) (by rfl) (pa_cons (pv 0) pa_nil)) (pa_cons (pv 1) pa_nil)) pa_nil))))), ?_⟩
    refine ⟨_, rfl, _, rfl, r, lt, dr, ca, ga, cs, gs, ns, rfl, hR, hG, hlt, hL, fun H1 s1 => ?_⟩
    refine ⟨_, rfl, fun x dx nx ndx ne => ?_⟩
    have s1' : Same H1 (upd (upd H1 dx (.own x)) x (.ins D dx [])) := (same_upd ndx).trans (same_upd (by rw [upd_ne (Ne.symm ne)]; exact nx))
    refine ⟨x, dx, r, dr, ca, ga, cs, gs, rfl, upd_same, (hR.same s1).same s1', hG, fun H2 u z b bl hD => ?_⟩
    have s2 : Same H1 H2 := fun p o e => bl p o (by
      rw [List.mem_singleton]
      intro e2
      rw [e2, nx] at e; cases e) (s1' p o e)
    refine ⟨rfl, x, dx, _, rfl, hD.1, rfl, _, rfl, x, lt, dx, r, dr, ca, ga, u, z, b, cs, gs, ns, rfl, (hR.same s1).same s2, hG, hD, s2 _ _ (s1 _ _ hlt), hL.len, hL.bnd, fun H3 fd s3 nfd hF => ?_⟩
    have sm3 : Same H H3 := s1.trans (s2.trans s3)
    clear bl hD s1' s3 nfd s2 s1
    obtain ⟨Fw, ⟨kvs, hkv, hkp⟩, hlen, hnd, hder, hfo, hst⟩ := hF
    have hks := frx_keys hkp
    refine ⟨fd, kvs, rfl, .inl hkv, fun f hf => ?_, fun bs' fs' p hp hperm hup hn => ?_⟩
    · rw [hks, hder] at hf
      exact (der_gf hG hf).shp
    · rw [hks] at hperm
      have s4 := same_upd (o := HO.lst (bs'.map V.ref)) hn
      refine q _ p (sm3.trans s4) ⟨bs', fs', upd_same, Paired.mapP hp fun _ _ z => s4 _ _ z, hup, hperm.nodup_iff.mpr hnd, fun f => by rw [hperm.mem_iff]; exact hder f, ?_⟩
      rw [hperm.length_eq]
      unfold ks wi
      rw [List.length_map, List.length_map]
      exact hlen
end
end L2.My
end
section
set_option Elab.async false
set_option linter.all false
set_option maxRecDepth 100000
set_option maxHeartbeats 4000000
namespace L2.My
open PySem PySem.Spec PyProof.Rows
abbrev sIs : Stmt := top 38
abbrev sLfact : Stmt := top 39
theorem kitAny_tl {K : PySem.W.Frag} : ∀ t ∈ ["NoneType", "bool", "int", "str", "list", "tuple", "dict"], PySem.W.kitAny K (.type t) [.type "tuple", .type "list"] = some (decide (t = "tuple" ∨ t = "list")) := by
  have h1 : ∀ t ∈ ["NoneType", "bool", "int", "str", "list", "tuple", "dict"], kitB t "list" = some (decide (t = "list")) := by decide +kernel
  have h2 : ∀ t ∈ ["NoneType", "bool", "int", "str", "list", "tuple", "dict"], kitB t "tuple" = some (decide (t = "tuple")) := by decide +kernel
  intro t ht
  refine kitAny_cons (kit_ty (h2 t ht)) (fun e => kitAny_cons (kit_ty (h1 t ht)) (fun e2 => ?_) fun e2 => ?_) fun e => ?_
  · have a := of_decide_eq_false e
    have b := of_decide_eq_false e2
    rw [decide_eq_false (fun z => z.elim a b)]
    rfl
  · exact decide_eq_true (.inr (of_decide_eq_true e2))
  · exact decide_eq_true (.inl (of_decide_eq_true e))
theorem walk_zipT {K : PySem.W.Frag} {a b : Addr} {xs ys : List V} (hl : xs.length = ys.length) : Walk (RZ.ItzT K a b) xs.length (fun H => SqT K H a xs ∧ SqT K H b ys) (YPair (fun i => xs[i]?) (fun i => ys[i]?)) :=
  ⟨fun i H hi ⟨p, q⟩ => ⟨xs, ys, xs[i], ys[i], p, q, List.getElem?_eq_getElem hi, List.getElem?_eq_getElem (hl ▸ hi)⟩, fun H ⟨p, q⟩ => ⟨xs, ys, p, q, .inl (Nat.le_refl _)⟩, fun i H v H' _ ⟨p, q⟩ ⟨T, x, y, h1, h2, h3, h4, h5⟩ => ⟨T, x, y, h1, h2, h3, h4 _ p, h5 _ q⟩⟩
/-- an int, a text, None -/
inductive Atm : V → String → Prop where
  | int (i : Int) : Atm (.int i) "int"
  | str (z : Str) : Atm (.str z) "str"
  | non : Atm .non "NoneType"
def Alk (H : Hp) (v v' : V) : Prop := (∃ t, Atm v t ∧ v' = v) ∨ ∃ (a b : Addr) (f : Fc), v = .ref a ∧ v' = .ref b ∧ FactAt H a f ∧ FactAt H b f ∧ GF f
theorem Alk.same {H H' : Hp} {v v' : V} (h : Alk H v v') (s : Same H H') : Alk H' v v' := by
  rcases h with h | ⟨a, b, f, e1, e2, h1, h2, h3⟩
  · exact .inl h
  · exact .inr ⟨a, b, f, e1, e2, s _ _ h1, s _ _ h2, h3⟩
theorem Atm.th {H : Hp} {v : V} {t : String} (h : Atm v t) : ThT H v t ∧ decide (t = "tuple" ∨ t = "list") = false ∧ t ∈ ["NoneType", "bool", "int", "str", "list", "tuple", "dict"] ∧ instT t "bool" = false ∧ scal v v = true := by
  cases h with
  | int i => exact ⟨.int i, by decide, by decide, by decide, rfl⟩
  | str z => exact ⟨.str z, by decide, by decide, by decide, rfl⟩
  | non => exact ⟨.non, by decide, by decide, by decide, rfl⟩
theorem kv_atm (k : Key) : ∃ t, Atm (kV k) t := by
  cases k with
  | inl i => exact ⟨_, .int i⟩
  | inr z => exact ⟨_, .str z⟩
def spIsA : Sp := fun vs H Q _ => ∃ (v : V) (t : String), vs = [v, v] ∧ Atm v t ∧ ∀ H', Same H H' → Q (.bl true) H'
def spIs1 : Sp := fun vs H Q _ => ∃ v v' : V, vs = [v, v'] ∧ Alk H v v' ∧ ∀ H', Same H H' → Q (.bl true) H'
def spIs2 : Sp := fun vs H Q _ => ∃ (a b : Addr) (xs ys : List V), vs = [.ref a, .ref b] ∧ H a = some (.lst xs) ∧ H b = some (.lst ys) ∧ Paired (Alk H) xs ys ∧ xs.length ≤ 1000000 ∧ ∀ H', Same H H' → Q (.bl true) H'
theorem all_yes (n : Nat) : ((List.range n).map fun _ => true).all id = true := by
  rw [List.all_eq_true]
  intro b hb
  obtain ⟨_, _, rfl⟩ := List.mem_map.mp hb
  rfl
abbrev nIs : List Str := ["given", "due", "one", "two"]
section
variable {P : Program} {w : World} {K : PySem.W.Frag} {mg : Str → Option Value} {base : Heap}
theorem scIs : FnScope nIs ["given", "due"] (defScope sIs) := ⟨rfl, rfl, rfl, by decide +kernel, rfl, by decide +kernel, by decide +kernel⟩
theorem ok_isA {f : Addr} {fd : FuncData} {k : Nat} (F : Fun K "_law_is" "_law_is" sIs f fd) (T : Tx mg) : FnOk P w K mg base CX0 (k + 1) f fd ["given", "due"] spIsA := by
  refine F.ok scIs (fun vs H Q E h => ?_) (fun cdv A outer s H vs Q E hr h => ?_)
  · obtain ⟨v, t, rfl, _⟩ := h
    rfl
  · obtain ⟨v, t, rfl, at1, q⟩ := h
    refine ⟨_, (pss_cons (ps_if (pt_val (pe_callB call_isiT (by rfl) T.isi (by decide +kernel) (pa_cons (pv 1) (pa_cons (pe_tup (pa_cons (pe_bltn (v := .ty "tuple") (u := .type "tuple") (by rfl) T.tuple_ (by decide +kernel) rfl) (pa_cons (pe_bltn (v := .ty "list") (u := .type "list") (by rfl) T.list_ (by decide +kernel) rfl) pa_nil))) pa_nil)))) pss_never pss_nil) (pss_one (ps_ret (pe_and (pe_cmpR op_eq (pe_callB call_isTh (by rfl) T.isi (by decide +kernel) (pa_cons (pv 0) (pa_cons (pe_bltn (v := .ty "bool") (u := .type "bool") (by rfl) T.bool_ (by decide +kernel) rfl) pa_nil))) (pe_callB call_isTh (by rfl) T.isi (by decide +kernel) (pa_cons (pv 1) (pa_cons (pe_bltn (v := .ty "bool") (u := .type "bool") (by rfl) T.bool_ (by decide +kernel) rfl) pa_nil))) (nomark _)) (pe_one (pe_cmpR op_eq (pv 0) (pv 1) (nomark _))))))), ?_⟩
    refine ⟨_, rfl, by show 2 ≤ sizeLine; decide, fun tp ntp => ?_⟩
    obtain ⟨h1, h2, h3, h4, h5⟩ := at1.th (H := upd H tp (.tup [.ty "tuple", .ty "list"]))
    refine ⟨v, tp, _, .type t, _, _, rfl, upd_same, .cons (.ty _) (.cons (.ty _) .nil), h1.tyX, kitAny_tl t h3, _, rfl, ?_⟩
    rw [h2]
    refine iteF ?_
    refine ⟨_, rfl, _, "bool", t, rfl, h1, by decide, _, rfl, _, "bool", t, rfl, h1, by decide, ?_⟩
    rw [h4]
    refine ⟨rfl, _, rfl, iteT ⟨_, rfl, _, rfl, h5, ?_⟩⟩
    rw [decide_eq_true rfl]
    exact q _ (same_upd ntp)
theorem ok_is1 {f : Addr} {fd : FuncData} {k : Nat} (F : Fun K "_law_is" "_law_is" sIs f fd) (T : Tx mg) (cI : Cal P w K mg base (k + 1) "_law_is" ["given", "due"] spIsA) : FnOk P w K mg base CX0 (k + 2) f fd ["given", "due"] spIs1 := by
  refine F.ok scIs (fun vs H Q E h => ?_) (fun cdv A outer s H vs Q E hr h => ?_)
  · obtain ⟨v, v', rfl, _⟩ := h
    rfl
  · obtain ⟨v, v', rfl, alk, q⟩ := h
    refine ⟨_, (pss_cons (ps_if (pt_val (pe_callB call_isiT (by rfl) T.isi (by decide +kernel) (pa_cons (pv 1) (pa_cons (pe_tup (pa_cons (pe_bltn (v := .ty "tuple") (u := .type "tuple") (by rfl) T.tuple_ (by decide +kernel) rfl) (pa_cons (pe_bltn (v := .ty "list") (u := .type "list") (by rfl) T.list_ (by decide +kernel) rfl) pa_nil))) pa_nil)))) (pss_cons (ps_if (pt_or (pt_cmpR op_ne (pe_callB call_isTh (by rfl) T.isi (by decide +kernel) (pa_cons (pv 0) (pa_cons (pe_bltn (v := .ty "tuple") (u := .type "tuple") (by rfl) T.tuple_ (by decide +kernel) rfl) pa_nil))) (pe_callB call_isTh (by rfl) T.isi (by decide +kernel) (pa_cons (pv 1) (pa_cons (pe_bltn (v := .ty "tuple") (u := .type "tuple") (by rfl) T.tuple_ (by decide +kernel) rfl) pa_nil))) (nomark _)) (pw_or1 (pt_not (pt_val (pe_callB call_isiT (by rfl) T.isi (by decide +kernel) (pa_cons (pv 0) (pa_cons (pe_tup (pa_cons (pe_bltn (v := .ty "tuple") (u := .type "tuple") (by rfl) T.tuple_ (by decide +kernel) rfl) (pa_cons (pe_bltn (v := .ty "list") (u := .type "list") (by rfl) T.list_ (by decide +kernel) rfl) pa_nil))) pa_nil))))))) (pss_one (ps_ret pe_bl)) pss_nil) (pss_one (ps_ret (pe_and (pe_cmpR op_eq (pe_callB call_len_seq (by rfl) T.len_ PySem.boot_len (pa_cons (pv 0) pa_nil)) (pe_callB call_len_seq (by rfl) T.len_ PySem.boot_len (pa_cons (pv 1) pa_nil)) (nomark _)) (pe_one (pe_callB (cr_all rfl) (by rfl) T.all_ (by decide +kernel) (pa_cons (pe_lc (own := [("one", 2), ("two", 3)]) (g := gTup K 2 (gCons (gName 2) (gCons (gName 3) gNil))) (te := tCall spIsA [] E0 (tCons (tVar 2) (tCons (tVar 3) tNil))) rfl scIs.nd (RZ.pi_zipA (by rfl) T.zip_ (pa_cons (pv 0) (pa_cons (pv 1) pa_nil))) (blkOk_by (N := nIs) (sc := defScope sIs) (by decide +kernel)) (fun _ _ _ _ _ => (pg_tup rfl (pgs_cons (pg_name (i := 2) scIs.nd rfl (Or.inl rfl)) (pgs_cons (pg_name (i := 3) scIs.nd rfl (Or.inl rfl)) pgs_nil)))) (fun _ _ _ _ _ => pts_nil) (fun _ _ _ _ _ => (pe_c cI hr (by omega) (by rfl) (pa_cons (pv 2) (pa_cons (pv 3) pa_nil))))) pa_nil))))))) pss_nil) (pss_one (ps_ret (pe_and (pe_cmpR op_eq (pe_callB call_isTh (by rfl) T.isi (by decide +kernel) (pa_cons (pv 0) (pa_cons (pe_bltn (v := .ty "bool") (u := .type "bool") (by rfl) T.bool_ (by decide +kernel) rfl) pa_nil))) (pe_callB call_isTh (by rfl) T.isi (by decide +kernel) (pa_cons (pv 1) (pa_cons (pe_bltn (v := .ty "bool") (u := .type "bool") (by rfl) T.bool_ (by decide +kernel) rfl) pa_nil))) (nomark _)) (pe_one (pe_cmpR op_eq (pv 0) (pv 1) (nomark _))))))), ?_⟩
    refine ⟨_, rfl, by show 2 ≤ sizeLine; decide, fun tp ntp => ?_⟩
    have s1 : Same H (upd H tp (.tup [.ty "tuple", .ty "list"])) := same_upd ntp
    have htp : (upd H tp (.tup [.ty "tuple", .ty "list"])) tp = some (.tup [.ty "tuple", .ty "list"]) := upd_same
    generalize hH1 : upd H tp (.tup [.ty "tuple", .ty "list"]) = H1 at *
    rcases alk with ⟨t, at1, rfl⟩ | ⟨a, b, g, rfl, rfl, ha, hb, gg⟩
    · obtain ⟨h1, h2, h3, h4, h5⟩ := at1.th (H := H1)
      refine ⟨_, tp, _, .type t, _, _, rfl, htp, .cons (.ty _) (.cons (.ty _) .nil), h1.tyX, kitAny_tl t h3, _, rfl, ?_⟩
      rw [h2]
      refine iteF ?_
      refine ⟨_, rfl, _, "bool", t, rfl, h1, by decide, _, rfl, _, "bool", t, rfl, h1, by decide, ?_⟩
      rw [h4]
      refine ⟨rfl, _, rfl, iteT ⟨_, rfl, _, rfl, h5, ?_⟩⟩
      rw [decide_eq_true rfl]
      exact q _ s1
    · refine ⟨.ref b, tp, _, .type "tuple", _, _, rfl, htp, .cons (.ty _) (.cons (.ty _) .nil), (ThT.tup (s1 _ _ hb)).tyX, kitAny_tl "tuple" (by decide), _, rfl, iteT ?_⟩
      refine ⟨_, rfl, _, "tuple", _, rfl, .tup (s1 _ _ ha), by decide, _, rfl, _, "tuple", _, rfl, .tup (s1 _ _ hb), by decide, rfl, _, rfl, iteF ?_⟩
      refine ⟨_, rfl, by show 2 ≤ sizeLine; decide, fun tq ntq => ?_⟩
      have s2 : Same H1 (upd H1 tq (.tup [.ty "tuple", .ty "list"])) := same_upd ntq
      have htq : (upd H1 tq (.tup [.ty "tuple", .ty "list"])) tq = some (.tup [.ty "tuple", .ty "list"]) := upd_same
      have s12 := s1.trans s2
      generalize hH2 : upd H1 tq (.tup [.ty "tuple", .ty "list"]) = H2 at *
      refine ⟨.ref a, tq, _, .type "tuple", _, _, rfl, htq, .cons (.ty _) (.cons (.ty _) .nil), (ThT.tup (s12 _ _ ha)).tyX, kitAny_tl "tuple" (by decide), _, rfl, iteF ?_⟩
      refine ⟨_, rfl, a, _, rfl, .inr (.of (s12 _ _ ha)), _, rfl, b, _, rfl, .inr (.of (s12 _ _ hb)), rfl, _, rfl, ?_⟩
      rw [decide_eq_true rfl]
      refine iteT ?_
      refine ⟨_, rfl, _, rfl, a, b, _, _, rfl, .inr ⟨.of (s12 _ _ ha), .of (s12 _ _ hb), fun D hD => ?_⟩⟩
      refine lcP (walk_zipT rfl) (fun i => V.bl true) ?_ hD (fun _ sm => ⟨seqT sm (.of (s12 _ _ ha)), seqT sm (.of (s12 _ _ hb))⟩) ?_ ?_
      · obtain ⟨z, is, rfl, _, hi4, _⟩ := gg
        simp only [List.length_map, List.length_cons]
        exact Nat.lt_of_le_of_lt (show is.length + 1 ≤ 5 by omega) (by decide)
      · rintro i y H3 H4 Q' hi sm ⟨p, u1, u2, rfl, np, rfl, e1, e2⟩ hq
        have e1' : (g.map kV)[i]? = some u1 := e1
        have e2' : (g.map kV)[i]? = some u2 := e2
        rw [e1'] at e2'
        cases e2'
        rw [List.getElem?_map] at e1'
        obtain ⟨k0, _, rfl⟩ := Option.map_eq_some_iff.mp e1'
        obtain ⟨t, at1⟩ := kv_atm k0
        refine ⟨p, _, rfl, .of upd_same, rfl, _, _, rfl, _, _, rfl, rfl, rfl, _, rfl, _, rfl, _, t, rfl, at1, fun H5 s5 => ?_⟩
        exact hq _ ((same_upd np).trans s5)
      · intro H3 sm hd
        refine ⟨D, (List.range (g.map kV).length).map fun i => true, rfl, .inl (.inl (by rw [hd, List.map_map]; rfl)), ?_⟩
        rw [all_yes]
        exact q _ (s12.trans sm)
theorem ok_is2 {f : Addr} {fd : FuncData} {k : Nat} (F : Fun K "_law_is" "_law_is" sIs f fd) (T : Tx mg) (cI : Cal P w K mg base (k + 2) "_law_is" ["given", "due"] spIs1) : FnOk P w K mg base CX0 (k + 3) f fd ["given", "due"] spIs2 := by
  refine F.ok scIs (fun vs H Q E h => ?_) (fun cdv A outer s H vs Q E hr h => ?_)
  · obtain ⟨a, b, xs, ys, rfl, _⟩ := h
    rfl
  · obtain ⟨a, b, xs, ys, rfl, ha, hb, hp, hl, q⟩ := h
    refine ⟨_, (pss_cons (ps_if (pt_val (pe_callB call_isiT (by rfl) T.isi (by decide +kernel) (pa_cons (pv 1) (pa_cons (pe_tup (pa_cons (pe_bltn (v := .ty "tuple") (u := .type "tuple") (by rfl) T.tuple_ (by decide +kernel) rfl) (pa_cons (pe_bltn (v := .ty "list") (u := .type "list") (by rfl) T.list_ (by decide +kernel) rfl) pa_nil))) pa_nil)))) (pss_cons (ps_if (pt_or (pt_cmpR op_ne (pe_callB call_isTh (by rfl) T.isi (by decide +kernel) (pa_cons (pv 0) (pa_cons (pe_bltn (v := .ty "tuple") (u := .type "tuple") (by rfl) T.tuple_ (by decide +kernel) rfl) pa_nil))) (pe_callB call_isTh (by rfl) T.isi (by decide +kernel) (pa_cons (pv 1) (pa_cons (pe_bltn (v := .ty "tuple") (u := .type "tuple") (by rfl) T.tuple_ (by decide +kernel) rfl) pa_nil))) (nomark _)) (pw_or1 (pt_not (pt_val (pe_callB call_isiT (by rfl) T.isi (by decide +kernel) (pa_cons (pv 0) (pa_cons (pe_tup (pa_cons (pe_bltn (v := .ty "tuple") (u := .type "tuple") (by rfl) T.tuple_ (by decide +kernel) rfl) (pa_cons (pe_bltn (v := .ty "list") (u := .type "list") (by rfl) T.list_ (by decide +kernel) rfl) pa_nil))) pa_nil))))))) (pss_one (ps_ret pe_bl)) pss_nil) (pss_one (ps_ret (pe_and (pe_cmpR op_eq (pe_callB call_len_seq (by rfl) T.len_ PySem.boot_len (pa_cons (pv 0) pa_nil)) (pe_callB call_len_seq (by rfl) T.len_ PySem.boot_len (pa_cons (pv 1) pa_nil)) (nomark _)) (pe_one (pe_callB (cr_all rfl) (by rfl) T.all_ (by decide +kernel) (pa_cons (pe_lc (own := [("one", 2), ("two", 3)]) (g := gTup K 2 (gCons (gName 2) (gCons (gName 3) gNil))) (te := tCall spIs1 [] E0 (tCons (tVar 2) (tCons (tVar 3) tNil))) rfl scIs.nd (RZ.pi_zipA (by rfl) T.zip_ (pa_cons (pv 0) (pa_cons (pv 1) pa_nil))) (blkOk_by (N := nIs) (sc := defScope sIs) (by decide +kernel)) (fun _ _ _ _ _ => (pg_tup rfl (pgs_cons (pg_name (i := 2) scIs.nd rfl (Or.inl rfl)) (pgs_cons (pg_name (i := 3) scIs.nd rfl (Or.inl rfl)) pgs_nil)))) (fun _ _ _ _ _ => pts_nil) (fun _ _ _ _ _ => (pe_c cI hr (by omega) (by rfl) (pa_cons (pv 2) (pa_cons (pv 3) pa_nil))))) pa_nil))))))) pss_nil) (pss_one (ps_ret (pe_and (pe_cmpR op_eq (pe_callB call_isTh (by rfl) T.isi (by decide +kernel) (pa_cons (pv 0) (pa_cons (pe_bltn (v := .ty "bool") (u := .type "bool") (by rfl) T.bool_ (by decide +kernel) rfl) pa_nil))) (pe_callB call_isTh (by rfl) T.isi (by decide +kernel) (pa_cons (pv 1) (pa_cons (pe_bltn (v := .ty "bool") (u := .type "bool") (by rfl) T.bool_ (by decide +kernel) rfl) pa_nil))) (nomark _)) (pe_one (pe_cmpR op_eq (pv 0) (pv 1) (nomark _))))))), ?_⟩
    refine ⟨_, rfl, by show 2 ≤ sizeLine; decide, fun tp ntp => ?_⟩
    have s1 : Same H (upd H tp (.tup [.ty "tuple", .ty "list"])) := same_upd ntp
    have htp : (upd H tp (.tup [.ty "tuple", .ty "list"])) tp = some (.tup [.ty "tuple", .ty "list"]) := upd_same
    generalize hH1 : upd H tp (.tup [.ty "tuple", .ty "list"]) = H1 at *
    have hlen : xs.length = ys.length := Paired.len hp
    refine ⟨.ref b, tp, _, .type "list", _, _, rfl, htp, .cons (.ty _) (.cons (.ty _) .nil), (ThT.lst (s1 _ _ hb)).tyX, kitAny_tl "list" (by decide), _, rfl, iteT ?_⟩
    refine ⟨_, rfl, _, "tuple", _, rfl, .lst (s1 _ _ ha), by decide, _, rfl, _, "tuple", _, rfl, .lst (s1 _ _ hb), by decide, rfl, _, rfl, iteF ?_⟩
    refine ⟨_, rfl, by show 2 ≤ sizeLine; decide, fun tq ntq => ?_⟩
    have s2 : Same H1 (upd H1 tq (.tup [.ty "tuple", .ty "list"])) := same_upd ntq
    have htq : (upd H1 tq (.tup [.ty "tuple", .ty "list"])) tq = some (.tup [.ty "tuple", .ty "list"]) := upd_same
    have s12 := s1.trans s2
    generalize hH2 : upd H1 tq (.tup [.ty "tuple", .ty "list"]) = H2 at *
    refine ⟨.ref a, tq, _, .type "list", _, _, rfl, htq, .cons (.ty _) (.cons (.ty _) .nil), (ThT.lst (s12 _ _ ha)).tyX, kitAny_tl "list" (by decide), _, rfl, iteF ?_⟩
    refine ⟨_, rfl, a, _, rfl, .inl (SqL.of (s12 _ _ ha)), _, rfl, b, _, rfl, .inl (SqL.of (s12 _ _ hb)), rfl, _, rfl, ?_⟩
    rw [hlen, decide_eq_true rfl]
    refine iteT ?_
    refine ⟨_, rfl, _, rfl, a, b, _, _, rfl, .inl ⟨SqL.of (s12 _ _ ha), SqL.of (s12 _ _ hb), fun D hD => ?_⟩⟩
    refine lcP (walk_zip (n := xs.length) (by rw [hlen, Nat.min_self])) (fun i => V.bl true) (Nat.lt_of_le_of_lt hl (by decide)) hD (fun _ sm => ⟨SqL.of (sm _ _ (s12 _ _ ha)), SqL.of (sm _ _ (s12 _ _ hb))⟩) ?_ ?_
    · rintro i y H3 H4 Q' hi sm ⟨p, u1, u2, rfl, np, rfl, e1, e2⟩ hq
      have e1' : xs[i]? = some u1 := e1
      have e2' : ys[i]? = some u2 := e2
      obtain ⟨u3, e3, al⟩ := Paired.at' hp e1'
      rw [e2'] at e3
      cases e3
      have s14 := (s12.trans sm).trans (same_upd (o := HO.tup [u1, u2]) np)
      refine ⟨p, _, rfl, .of upd_same, rfl, _, _, rfl, _, _, rfl, rfl, rfl, _, rfl, _, rfl, _, _, rfl, al.same s14, fun H5 s5 => ?_⟩
      exact hq _ ((same_upd np).trans s5)
    · intro H3 sm hd
      refine ⟨D, (List.range xs.length).map fun i => true, rfl, .inl (.inl (by rw [hd, List.map_map]; rfl)), ?_⟩
      rw [all_yes]
      exact q _ (s12.trans sm)
end
end L2.My
end
section
set_option Elab.async false
set_option linter.all false
set_option maxRecDepth 100000
set_option maxHeartbeats 4000000
namespace L2.My
open PySem PySem.Spec PyProof.Rows
abbrev sPool : Stmt := top 40
def spLfact : Sp := fun vs H Q _ => ∃ (b g : Addr), vs = [.ref b] ∧ HandAt H b g ∧ ∀ H' p f, BL [b] H H' → HandAt H' b g → FactAt H' p f → GF f → Q (.ref p) H'
theorem word_cut : ∀ r : Nat, r < 5 → wordS (cutS "abcdefghijkl" (some (r : Int)) none) := by
  intro r hr
  unfold wordS
  match r, hr with
  | 0, _ => decide +kernel
  | 1, _ => decide +kernel
  | 2, _ => decide +kernel
  | 3, _ => decide +kernel
  | 4, _ => decide +kernel
theorem word_any : ∀ z ∈ (["a", "b", "path", "turn"] : List Str), wordS z := by
  intro z hz
  unfold wordS
  revert z
  decide +kernel
theorem GF.mk {z : Str} {is : List Int} (hz : wordS z) (hl : is.length ≤ 4) (h : ∀ i ∈ is, 0 ≤ i ∧ i < 1000000000000) : GF (.inr z :: is.map .inl) := ⟨z, is, rfl, hz, hl, h⟩
section
variable {P : Program} {w : World} {K : PySem.W.Frag} {mg : Str → Option Value} {base : Heap}
theorem scLf : FnScope ["hand", "word", "k"] ["hand"] (defScope sLfact) := ⟨rfl, rfl, rfl, by decide +kernel, rfl, by decide +kernel, by decide +kernel⟩
theorem ok_lfact {f : Addr} {fd : FuncData} {k : Nat} (F : Fun K "_law_fact" "_law_fact" sLfact f fd) (T : Tx mg) (cD : Cal P w K mg base (k + 2) "_law_draw" ["hand", "many"] spDraw) (cA : Cal P w K mg base (k + 2) "_law_any" ["hand", "items"] spAny) : FnOk P w K mg base CX0 (k + 3) f fd ["hand"] spLfact := by
  refine F.ok scLf (fun vs H Q E h => ?_) (fun cdv A outer s H vs Q E hr h => ?_)
  · obtain ⟨b, g, rfl, _⟩ := h
    rfl
  · obtain ⟨b, g, rfl, hB, q⟩ := h
    refine ⟨_, (pss_cons (ps_if (pt_cmpR op_eq (pe_c cD hr (by omega) (by rfl) (pa_cons (pv 0) (pa_cons pe_int pa_nil))) pe_int (nomark _)) (pss_one (ps_ret (pe_tup (pa_cons (pe_slice sl_str pe_str (po_some (pe_c cD hr (by omega) (by rfl) (pa_cons (pv 0) (pa_cons pe_int pa_nil)))) po_none) (pa_cons pe_int (pa_cons pe_int (pa_cons (pe_c cD hr (by omega) (by rfl) (pa_cons (pv 0) (pa_cons pe_int pa_nil))) (pa_cons pe_int pa_nil)))))))) pss_nil) (pss_cons (ps_set (i := 1) scLf.nd rfl (Or.inl rfl) (pe_c cA hr (by omega) (by rfl) (pa_cons (pv 0) (pa_cons (pe_lst (pa_cons pe_str (pa_cons pe_str (pa_cons pe_str (pa_cons pe_str pa_nil))))) pa_nil)))) (pss_one (ps_ret (pe_op op_catT (pe_tup (pa_cons (pv 1) pa_nil)) (pe_tupleOf (by rfl) T.tuple_ (pe_lc (own := [("k", 2)]) (g := gName 2) (te := tCall spDraw [] E0 (tCons (tVar 0) (tCons (tC (.int 3)) tNil))) rfl scLf.nd (pi_range1 (by rfl) T.range_ (pa_cons (pe_c cD hr (by omega) (by rfl) (pa_cons (pv 0) (pa_cons pe_int pa_nil))) pa_nil)) (blkOk_by (N := ["hand", "word", "k"]) (sc := defScope sLfact) (by decide +kernel)) (fun _ _ _ _ _ => pg_name (i := 2) scLf.nd rfl (Or.inl rfl)) (fun _ _ _ _ _ => pts_nil) (fun _ _ _ _ _ => (pe_c cD hr (by omega) (by rfl) (pa_cons (pv 0) (pa_cons pe_int pa_nil))))))))))), ?_⟩
    refine ⟨_, rfl, b, g, 40, rfl, hB, by decide, by decide, fun H1 r1 bl1 hB1 h10 h11 => ⟨rfl, _, rfl, ?_⟩⟩
    refine ite2 (fun _ => ?_) (fun _ => ?_)
    · refine ⟨_, rfl, b, g, 5, rfl, hB1, by decide, by decide, fun H2 r2 bl2 hB2 h20 h21 => ?_⟩
      obtain ⟨n, rfl⟩ : ∃ n : Nat, r2 = n := ⟨r2.toNat, by omega⟩
      refine ⟨_, rfl, _, rfl, by decide, ?_⟩
      refine ⟨_, rfl, b, g, 3, rfl, hB2, by decide, by decide, fun H3 r3 bl3 hB3 h30 h31 => ⟨by show 5 ≤ sizeLine; decide, fun p np => ?_⟩⟩
      have s4 := same_upd (o := HO.tup [.str (cutS "abcdefghijkl" (some (n : Int)) none), .int 999999999999, .int 0, .int r3, .int 7]) np
      refine q _ p (.inr (cutS "abcdefghijkl" (some (n : Int)) none) :: [999999999999, 0, r3, 7].map .inl) (bl1.trans (bl2.trans (bl3.trans (.same s4)))) (hB3.same s4) upd_same (GF.mk (word_cut n (by omega)) (Nat.le_refl 4) fun y hy => ?_)
      simp only [List.mem_cons, List.not_mem_nil, or_false] at hy
      rcases hy with rfl | rfl | rfl | rfl <;> omega
    · refine ⟨_, rfl, by show 4 ≤ sizeLine; decide, fun l nl => ?_⟩
      have s2 := same_upd (o := HO.lst [.str "a", .str "b", .str "path", .str "turn"]) nl
      have nlb : l ≠ b := hB1.nb nl
      refine ⟨b, g, l, _, rfl, hB1.same s2, upd_same, nlb, by simp, by decide, fun H2 v bl2 hB2 hv => ?_⟩
      obtain ⟨z, hz, rfl⟩ : ∃ z, wordS z ∧ v = .str z := by
        have hv2 : v ∈ (["a", "b", "path", "turn"] : List Str).map V.str := hv
        obtain ⟨z, hz, rfl⟩ := List.mem_map.mp hv2
        exact ⟨z, word_any z hz, rfl⟩
      have bl12 : BL [b] H H2 := bl1.trans (.trans (.same s2) bl2)
      refine ⟨_, rfl, by show 1 ≤ sizeLine; decide, fun tw ntw => ?_⟩
      have s3 := same_upd (o := HO.tup [.str z]) ntw
      have htw : (upd H2 tw (.tup [.str z])) tw = some (.tup [.str z]) := upd_same
      have hB3 := hB2.same s3
      have bl3 := bl12.trans (.same s3)
      generalize hH3 : upd H2 tw (.tup [.str z]) = H3 at *
      refine ⟨_, rfl, b, g, 3, rfl, hB3, by decide, by decide, fun H4 r4 bl4 hB4 h40 h41 => ?_⟩
      refine ⟨_, rfl, by omega, by omega, fun D nD => ?_⟩
      have nDb : b ≠ D := Ne.symm (hB4.nb nD)
      have nDg := hB4.ng nD
      have htw4 := hB3.tk bl4 _ _ htw
      refine lc_it (walk_range (lo := 0)) (fun i G => BL [b] H4 G ∧ HandAt G b g ∧ ∃ is : List Int, G D = some (.lst (is.map V.int)) ∧ is.length = i ∧ ∀ y ∈ is, 0 ≤ y ∧ y < 3) ⟨.same (same_upd nD), hB4.same (same_upd nD), [], upd_same, rfl, by simp⟩ (fun i G _ _ => trivial) ?_ ?_
      · rintro i y G G' hi ⟨blg, hBg, is, hD, hl, hb3⟩ ⟨rfl, rfl⟩
        refine ⟨rfl, _, rfl, b, g, 3, rfl, hBg, by decide, by decide, fun H5 r5 bl5 hB5 h50 h51 => ?_⟩
        have hD5 := bl5 _ _ (by simpa using Ne.symm nDb) hD
        refine ⟨_, hD5, by rw [List.length_map]; exact Nat.lt_of_le_of_lt (show is.length ≤ 3 by omega) (by decide), BL.put (blg.trans bl5) nD, hB5.put (Ne.symm nDb) nDg, is ++ [r5], by rw [upd_same, List.map_append]; rfl, by rw [List.length_append, hl]; rfl, fun x hx => ?_⟩
        rcases List.mem_append.mp hx with h | h
        · exact hb3 x h
        · rw [List.mem_singleton.mp h]; exact ⟨h50, h51⟩
      · rintro G ⟨blg, hBg, is, hD, hl, hb3⟩
        refine .inl ⟨D, _, rfl, SqL.of hD, fun t nt => ?_⟩
        have s5 := same_upd (o := HO.tup (is.map V.int)) nt
        have bl4t := bl3.trans bl4
        have hl2 : is.length ≤ 2 := by omega
        refine ⟨tw, t, _, _, rfl, rfl, .of (s5 _ _ (hB4.tk blg _ _ htw4)), .of upd_same, by simp, by simp only [List.length_map, List.length_cons, List.length_nil]; exact Nat.le_trans (show 0 + 1 + is.length ≤ 3 by omega) (by decide), fun e => ?_, fun _ p np => ?_⟩
        · refine q _ tw (.inr z :: [].map .inl) (bl4t.trans (blg.trans (.same s5))) (hBg.same s5) (s5 _ _ (hB4.tk blg _ _ htw4)) (GF.mk hz (by decide) (by simp))
        · have s6 := same_upd (o := HO.tup ([.str z] ++ is.map V.int)) np
          refine q _ p (.inr z :: is.map .inl) (bl4t.trans (blg.trans (.same (s5.trans s6)))) (hBg.same (s5.trans s6)) ?_ (GF.mk hz (by omega) fun y hy => ?_)
          · unfold FactAt
            rw [upd_same, List.map_cons, List.map_map]
            rfl
          · have := hb3 y hy
            omega
end
end L2.My
end
section
set_option Elab.async false
set_option linter.all false
set_option maxRecDepth 100000
set_option maxHeartbeats 4000000
namespace L2.My
open PySem PySem.Spec PyProof.Rows
def dF (f : Fc) : PyData := .tuple (f.map kD)
theorem dpKs {K : PySem.W.Frag} {H : Hp} : ∀ f : Fc, DpAll K H (f.map kV) (f.map kD)
  | [] => .nil
  | .inl i :: r => .cons (.int i) (dpKs r)
  | .inr x :: r => .cons (.str x) (dpKs r)
theorem dpF {K : PySem.W.Frag} {H : Hp} {a : Addr} {f : Fc} (h : FactAt H a f) : Dp K H (.ref a) (dF f) := .tup (.of h) (dpKs f)
theorem dpFs {K : PySem.W.Frag} {H : Hp} {as : List Addr} {fs : List Fc} (h : Paired (FactAt H) as fs) : DpAll K H (as.map .ref) (fs.map dF) := by
  induction h with
  | nil => exact .nil
  | cons r _ ih => exact .cons (dpF r) ih
theorem dep_kD (f : Fc) : PyData.depthAll (f.map kD) ≤ 0 := dep_map (n := 0) (fun x => by cases x <;> simp [kD, PyData.depth]) f
theorem dep_dF (f : Fc) : PyData.depth (dF f) ≤ 1 := by
  have := dep_kD f
  simp only [dF, PyData.depth]
  omega
theorem str_ok {z : Str} (h : wordS z) : PyData.strOk z = true := by
  unfold PyData.strOk
  rw [Array.all_eq_true_iff_forall_mem]
  intro x hx
  have := List.all_eq_true.mp h.2.2 x (by simpa using hx)
  rw [Bool.and_eq_true, decide_eq_true_eq, decide_eq_true_eq] at this
  rw [decide_eq_true_eq]
  omega
theorem can_dF {f : Fc} (h : GF f) : PyData.canLay0 (dF f) = true := by
  obtain ⟨z, is, rfl, hz, _⟩ := h
  have h1 : PyData.canLayAll0 ((is.map Sum.inl : Fc).map kD) = true := can_map fun x hx => by
    obtain ⟨i, _, rfl⟩ := List.mem_map.mp hx
    simp [kD, PyData.canLay0]
  simp only [dF, PyData.canLay0, List.map_cons, PyData.canLayAll0, kD, str_ok hz, Bool.true_and]
  exact h1
theorem shaped_dF {f : Fc} (h : GF f) : SeqAt.shaped (dF f) = true := by
  have := dep_dF f
  simp only [SeqAt.shaped, can_dF h, Bool.true_and]
  exact decide_eq_true (by omega)
theorem shaped_dFs {fs : List Fc} (h : ∀ f ∈ fs, GF f) : SeqAt.shaped (.list (fs.map dF)) = true := shaped_list (n := 1) (by decide) dep_dF fun f hf => can_dF (h f hf)
def PoolAt (H : Hp) (l : Addr) (fs : List Fc) (N : Nat) : Prop := ∃ as : List Addr, H l = some (.lst (as.map .ref)) ∧ Paired (FactAt H) as fs ∧ (∀ f ∈ fs, GF f) ∧ 1 ≤ fs.length ∧ fs.length ≤ N
theorem PoolAt.tk {H H' : Hp} {l : Addr} {fs : List Fc} {N : Nat} (h : PoolAt H l fs N) (t : TK H H') (e : ∀ xs, H l = some (.lst xs) → H' l = some (.lst xs)) : PoolAt H' l fs N := by
  obtain ⟨as, h1, h2, r⟩ := h
  exact ⟨as, e _ h1, Paired.mapP h2 fun _ _ z => z.tk t, r⟩
def spPool : Sp := fun vs H Q _ => ∃ (b g : Addr) (m : Int), vs = [.ref b, .int m] ∧ HandAt H b g ∧ 0 ≤ m ∧ m ≤ 20 ∧ ∀ H' l fs, BL [b] H H' → HandAt H' b g → H l = none → PoolAt H' l fs 30 → Q (.ref l) H'
section
variable {P : Program} {w : World} {K : PySem.W.Frag} {mg : Str → Option Value} {base : Heap}
theorem scPool : FnScope ["hand", "many", "found", "turn", "one"] ["hand", "many"] (defScope sPool) := ⟨rfl, rfl, rfl, by decide +kernel, rfl, by decide +kernel, by decide +kernel⟩
theorem ok_pool {f : Addr} {fd : FuncData} {k : Nat} (F : Fun K "_law_pool" "_law_pool" sPool f fd) (T : Tx mg) (cF : Cal P w K mg base (k + 3) "_law_fact" ["hand"] spLfact) : FnOk P w K mg base CX0 (k + 4) f fd ["hand", "many"] spPool := by
  refine F.ok scPool (fun vs H Q E h => ?_) (fun cdv A outer s H vs Q E hr h => ?_)
  · obtain ⟨b, g, m, rfl, _⟩ := h
    rfl
  · obtain ⟨b, g, m, rfl, hB, hm0, hm1, q⟩ := h
    refine ⟨_, (pss_cons (ps_set (i := 2) scPool.nd rfl (Or.inl rfl) (pe_lst (pa_cons (pe_tup (pa_cons pe_str pa_nil)) pa_nil))) (pss_cons (ps_for PassesOwn.never rfl (pi_range1 (by rfl) T.range_ (pa_cons (pv 1) pa_nil)) (pg_name (i := 3) scPool.nd rfl (Or.inl rfl)) (pss_cons (ps_set (i := 4) scPool.nd rfl (Or.inl rfl) (pe_c cF hr (by omega) (by rfl) (pa_cons (pv 0) pa_nil))) (pss_one (ps_if (pt_cmpR (op_notInD (u65 hr)) (pv 4) (pv 2) rfl) (pss_one (ps_expr (pe_bm PySem.F.plainAttrs_list PySem.F.slot_list_append PySem.F.type_list_append mt_append (pv 2) (pa_cons (pv 4) pa_nil)))) pss_nil)))) (pss_one (ps_ret (pv 2))))), ?_⟩
    refine ⟨by show 1 ≤ sizeLine; decide, fun t nt => ⟨by show 1 ≤ sizeLine; decide, fun l nl => ?_⟩⟩
    have s1 := same_upd (o := HO.tup [.str "a"]) nt
    have s2 := same_upd (o := HO.lst [.ref t]) nl
    have s12 := s1.trans s2
    have hl2 : (upd (upd H t (.tup [.str "a"])) l (.lst [.ref t])) l = some (.lst [.ref t]) := upd_same
    have ht2 := s2 _ _ (show (upd H t (.tup [.str "a"])) t = some (.tup [.str "a"]) from upd_same)
    have hB2 := hB.same s12
    have nlH : H l = none := s1.free nl
    have nlb := hB.nb nlH
    have nlg := hB.ng nlH
    generalize hH2 : upd (upd H t (.tup [.str "a"])) l (.lst [.ref t]) = H2 at *
    refine ⟨_, rfl, m, rfl, by omega, by omega, ?_⟩
    refine for_it (walk_range (lo := 0)) (fun i σ G => ∃ y3 y4, σ = [some (.ref b), some (.int m), some (.ref l), y3, y4] ∧ BL [b] H G ∧ HandAt G b g ∧ ∃ fs, PoolAt G l fs (1 + i)) ⟨_, _, rfl, .same s12, hB2, [[.inr "a"]], [t], hl2, .cons ht2 .nil, fun f hf => ?_, by decide, by decide⟩ (fun i σ G _ _ => trivial) ?_ ?_
    · rw [List.mem_singleton.mp hf]
      exact GF.mk (z := "a") (is := []) (word_any "a" (by decide)) (by decide) (by simp)
    · rintro i y σ G G' hi ⟨y3, y4, rfl, bl, hBg, fs, hP⟩ ⟨rfl, rfl⟩
      refine ⟨_, rfl, b, g, rfl, hBg, fun H5 p f bl5 hB5 hf5 gf => ?_⟩
      have tk5 := hBg.tk bl5
      obtain ⟨as, p1, p2, p3, p4, p5⟩ := hP.tk tk5 (fun xs e => bl5 _ _ (by simpa using nlb) e)
      have la := Paired.len p2
      refine ⟨_, rfl, _, rfl, dF f, fs.map dF, dpF hf5, .lst (.of p1) (dpFs p2), shaped_dF gf, shaped_dFs p3, _, rfl, ?_⟩
      refine ite2 (fun _ => ?_) (fun _ => ?_)
      · have tkA : TK H5 (upd H5 l (.lst (as.map V.ref ++ [.ref p]))) := TK.upd p1 (fun xs e => nomatch e)
        refine ⟨_, rfl, .inl ⟨rfl, _, SqL.of p1⟩, _, rfl, l, _, _, rfl, rfl, p1, ?_, ?_⟩
        · rw [List.length_map]
          exact Nat.lt_of_le_of_lt (show as.length ≤ 2000 by omega) (by decide)
        · refine ⟨_, _, rfl, BL.put (bl.trans bl5) nlH, hB5.put nlb nlg, fs ++ [f], as ++ [p], by rw [upd_same, List.map_append]; rfl, Paired.snoc (Paired.mapP p2 fun _ _ z => z.tk tkA) (hf5.tk tkA), fun x hx => ?_, by rw [List.length_append]; omega, by rw [List.length_append, List.length_singleton]; omega⟩
          rcases List.mem_append.mp hx with h | h
          · exact p3 x h
          · rw [List.mem_singleton.mp h]; exact gf
      · exact ⟨_, _, rfl, bl.trans bl5, hB5, fs, as, p1, p2, p3, p4, by omega⟩
    · rintro σ G ⟨y3, y4, rfl, bl, hBg, fs, hP⟩
      obtain ⟨as, p1, p2, p3, p4, p5⟩ := hP
      exact ⟨_, rfl, q _ l fs bl hBg nlH ⟨as, p1, p2, p3, p4, by omega⟩⟩
end
end L2.My
end
section
set_option Elab.async false
set_option linter.all false
set_option maxRecDepth 100000
set_option maxHeartbeats 4000000
namespace L2.My
open PySem PySem.Spec PyProof.Rows
abbrev sParts : Stmt := top 41
abbrev nPt : List Str := ["hand", "most", "grounds", "pool", "clauses", "found", "turn", "size", "k"]
/-- all facts are of a few -/
structure PF (Dp : List Fc) (cs : List Cz) (gs : List (List Fc)) : Prop where
  dl : Dp.length ≤ 30
  cl : ∀ c ∈ cs, (∀ f ∈ c.1, f ∈ Dp) ∧ c.2 ∈ Dp
  gr : ∀ g ∈ gs, ∀ f ∈ g, f ∈ Dp
  nc : cs.length ≤ 200
  nf : ∀ g ∈ gs, g.length ≤ 3
abbrev GFD (Dp : List Fc) (f : Fc) : Prop := GF f ∧ f ∈ Dp
abbrev GCD (Dp : List Fc) (c : Cz) : Prop := c.1.length ≤ 4 ∧ (∀ f ∈ c.1, GFD Dp f) ∧ GFD Dp c.2
def spParts : Sp := fun vs H Q _ => ∃ (b g : Addr) (m n : Int), vs = [.ref b, .int m, .int n] ∧ HandAt H b g ∧ 0 < m ∧ m ≤ 100 ∧ 0 ≤ n ∧ n ≤ 60 ∧ ∀ H' p ca ga cs gs, BL [b] H H' → HandAt H' b g → H' p = some (.tup [.ref ca, .ref ga]) → ClsAt H' ca cs → GrsAt H' ga gs → GR cs gs → gs.length = n.toNat → (∃ Dp, PF Dp cs gs) → Q (.ref p) H'
section
variable {Dp : List Fc} {b g pl D : Addr} {a1 a2 a4 a5 a6 a7 a8 : Option V} {n : Nat} {H1 : Hp} {Qd : Hp → Prop}
theorem PoolAt.any {H : Hp} {l : Addr} {N : Nat} (h : PoolAt H l Dp N) : ∃ xs : List V, H l = some (.lst xs) ∧ xs ≠ [] ∧ xs.length ≤ N ∧ ∀ v ∈ xs, ∃ p f, v = .ref p ∧ FactAt H p f ∧ GFD Dp f := by
  obtain ⟨as, p1, p2, p3, p4, p5⟩ := h
  have la := Paired.len p2
  refine ⟨_, p1, fun e => ?_, by rw [List.length_map]; omega, fun v hv => ?_⟩
  · have := congrArg List.length e
    rw [List.length_map, List.length_nil] at this
    omega
  · obtain ⟨i, hi⟩ := List.getElem?_of_mem hv
    obtain ⟨a, ha, rfl⟩ := ref_at hi
    obtain ⟨f, hf, hff⟩ := Paired.at' p2 ha
    exact ⟨a, f, rfl, hff, p3 f (List.mem_of_getElem? hf), List.mem_of_getElem? hf⟩
theorem PoolAt.few {H : Hp} {l : Addr} {N : Nat} (h : PoolAt H l Dp N) : Dp.length ≤ N := by
  obtain ⟨_, _, _, _, _, h⟩ := h
  exact h
theorem comp_facts (hB : HandAt H1 b g) (hP : PoolAt H1 pl Dp 30) (npb : pl ≠ b) (nD : H1 D = none) (hn : n ≤ 100) (hd : ∀ G as fs, BL [b] H1 G → HandAt G b g → G D = some (.lst (as.map .ref)) → Paired (FactAt G) as fs → (∀ f ∈ fs, GFD Dp f) → fs.length = n → Qd G) :
    CompOut (Itr 0 n) (gName 8) tYes (tCall spAny [] E0 (tCons (tVar 0) (tCons (tVar 3) tNil))) [8] [some (.ref b), a1, a2, some (.ref pl), a4, a5, a6, a7, a8] D Qd H1 := by
  have nDb := hB.nb nD
  have nDg := hB.ng nD
  have npD : pl ≠ D := fun e => by
    obtain ⟨_, h, _⟩ := hP
    rw [e, nD] at h; cases h
  refine lc_it (walk_range (lo := 0)) (fun i G => BL [b] H1 G ∧ HandAt G b g ∧ PoolAt G pl Dp 30 ∧ ∃ as fs, G D = some (.lst (as.map .ref)) ∧ Paired (FactAt G) as fs ∧ (∀ f ∈ fs, GFD Dp f) ∧ fs.length = i) ⟨.same (same_upd nD), hB.same (same_upd nD), hP.tk (.same (same_upd nD)) (fun xs e => same_upd nD _ _ e), [], [], upd_same, .nil, by simp, rfl⟩ (fun i G _ _ => trivial) ?_ ?_
  · rintro i y G G' hi ⟨bl, hBg, hPg, as, fs, h1, h2, h3, h4⟩ ⟨rfl, rfl⟩
    obtain ⟨xs, x1, x2, x3, x4⟩ := hPg.any
    refine ⟨rfl, _, rfl, _, rfl, b, g, pl, xs, rfl, hBg, x1, npb, x2, by omega, fun H5 v bl5 hB5 hv => ?_⟩
    obtain ⟨p, f, rfl, hf, gf⟩ := x4 v hv
    have tk5 := hBg.tk bl5
    have h15 := bl5 _ _ (by simpa using nDb) h1
    have la := Paired.len h2
    have tkA : TK H5 (upd H5 D (.lst (as.map V.ref ++ [.ref p]))) := TK.upd h15 (fun xs e => nomatch e)
    have tkB := TK.trans tk5 tkA
    refine ⟨_, h15, by rw [List.length_map]; exact Nat.lt_of_le_of_lt (show as.length ≤ 100 by omega) (by decide), BL.put (bl.trans bl5) nD, hB5.put nDb nDg, (hPg.tk tk5 (fun xs e => bl5 _ _ (by simpa using npb) e)).tk tkA (fun xs e => by rw [upd_ne npD]; exact e), as ++ [p], fs ++ [f], by rw [upd_same, List.map_append]; rfl, Paired.snoc (Paired.mapP h2 fun _ _ z => z.tk tkB) (hf.tk tkB), fun x hx => ?_, by rw [List.length_append, List.length_singleton, h4]⟩
    rcases List.mem_append.mp hx with h | h
    · exact h3 x h
    · rw [List.mem_singleton.mp h]; exact gf
  · rintro G ⟨bl, hBg, hPg, as, fs, h1, h2, h3, h4⟩
    exact hd G as fs bl hBg h1 h2 h3 h4
end
/-- where parts stand while they are made -/
structure PtI (b g pl cl fl : Addr) (Dp : List Fc) (H G : Hp) (n : Nat) : Prop where
  bl : BL [b] H G
  hb : HandAt G b g
  po : PoolAt G pl Dp 30
  cs : ∃ cas cs, G cl = some (.lst (cas.map .ref)) ∧ Paired (ClAt G) cas cs ∧ (∀ c ∈ cs, GCD Dp c) ∧ cs.length ≤ n
  fl : G fl = some (.lst [])
theorem PtI.step {Dp : List Fc} {b g pl cl fl : Addr} {H G G' : Hp} {n : Nat} (h : PtI b g pl cl fl Dp H G n) (s : BL [b] G G') (hb : HandAt G' b g) (n1 : pl ≠ b) (n2 : cl ≠ b) (n3 : fl ≠ b) : PtI b g pl cl fl Dp H G' n := by
  have tk := h.hb.tk s
  refine ⟨h.bl.trans s, hb, h.po.tk tk (fun xs e => s _ _ (by simpa using n1) e), ?_, s _ _ (by simpa using n3) h.fl⟩
  obtain ⟨cas, cs, h1, h2, h3⟩ := h.cs
  exact ⟨cas, cs, s _ _ (by simpa using n2) h1, Paired.mapP h2 fun _ _ z => z.tk tk, h3⟩
theorem PtI.app {Dp : List Fc} {b g pl cl fl : Addr} {H G : Hp} {n : Nat} {cas : List Addr} {cs : List Cz} {p : Addr} {c : Cz} (h : PtI b g pl cl fl Dp H G n) (h1 : G cl = some (.lst (cas.map .ref))) (h2 : Paired (ClAt G) cas cs) (h3 : ∀ c ∈ cs, GCD Dp c) (h4 : cs.length ≤ n) (hp : ClAt G p c) (gc : GCD Dp c) (n0 : H cl = none) (n1 : cl ≠ b) (n2 : cl ≠ g) (n3 : pl ≠ cl) (n4 : fl ≠ cl) :
    PtI b g pl cl fl Dp H (L2.upd G cl (.lst (cas.map V.ref ++ [.ref p]))) (n + 1) := by
  have tk : TK G (L2.upd G cl (.lst (cas.map V.ref ++ [.ref p]))) := TK.upd h1 (fun xs e => nomatch e)
  refine ⟨BL.put h.bl n0, h.hb.put n1 n2, h.po.tk tk (fun xs e => by rw [upd_ne n3]; exact e), ⟨cas ++ [p], cs ++ [c], by rw [upd_same, List.map_append]; rfl, Paired.snoc (Paired.mapP h2 fun _ _ z => z.tk tk) (hp.tk tk), fun x hx => ?_, by rw [List.length_append, List.length_singleton]; omega⟩, by rw [upd_ne n4]; exact h.fl⟩
  rcases List.mem_append.mp hx with z | z
  · exact h3 x z
  · rw [List.mem_singleton.mp z]; exact gc
theorem PtI.up {Dp : List Fc} {b g pl cl fl : Addr} {H G : Hp} {n m : Nat} (h : PtI b g pl cl fl Dp H G n) (hm : n ≤ m) : PtI b g pl cl fl Dp H G m := by
  obtain ⟨cas, cs, h1, h2, h3, h4⟩ := h.cs
  exact ⟨h.bl, h.hb, h.po, ⟨cas, cs, h1, h2, h3, Nat.le_trans h4 hm⟩, h.fl⟩
structure PtJ (b g pl cl fl : Addr) (Dp : List Fc) (H G : Hp) (n : Nat) : Prop where
  bl : BL [b] H G
  hb : HandAt G b g
  po : PoolAt G pl Dp 30
  cs : ∃ cas cs, G cl = some (.lst (cas.map .ref)) ∧ Paired (ClAt G) cas cs ∧ (∀ c ∈ cs, GCD Dp c) ∧ cs.length ≤ 200
  fl : ∃ gas gs, G fl = some (.lst (gas.map .ref)) ∧ Paired (FactsAt G) gas gs ∧ (∀ x ∈ gs, x.length ≤ 3 ∧ ∀ f ∈ x, GFD Dp f) ∧ gs.length = n
theorem PtJ.step {Dp : List Fc} {b g pl cl fl : Addr} {H G G' : Hp} {n : Nat} (h : PtJ b g pl cl fl Dp H G n) (s : BL [b] G G') (hb : HandAt G' b g) (n1 : pl ≠ b) (n2 : cl ≠ b) (n3 : fl ≠ b) : PtJ b g pl cl fl Dp H G' n := by
  have tk := h.hb.tk s
  refine ⟨h.bl.trans s, hb, h.po.tk tk (fun xs e => s _ _ (by simpa using n1) e), ?_, ?_⟩
  · obtain ⟨cas, cs, h1, h2, h3⟩ := h.cs
    exact ⟨cas, cs, s _ _ (by simpa using n2) h1, Paired.mapP h2 fun _ _ z => z.tk tk, h3⟩
  · obtain ⟨cas, cs, h1, h2, h3⟩ := h.fl
    exact ⟨cas, cs, s _ _ (by simpa using n3) h1, Paired.mapP h2 fun _ _ z => z.tk tk, h3⟩
theorem PtJ.app {Dp : List Fc} {b g pl cl fl : Addr} {H G : Hp} {n : Nat} {gas : List Addr} {gs : List (List Fc)} {p : Addr} {x : List Fc} (h : PtJ b g pl cl fl Dp H G n) (h1 : G fl = some (.lst (gas.map .ref))) (h2 : Paired (FactsAt G) gas gs) (h3 : ∀ x ∈ gs, x.length ≤ 3 ∧ ∀ f ∈ x, GFD Dp f) (h4 : gs.length = n) (hp : FactsAt G p x) (gx : x.length ≤ 3 ∧ ∀ f ∈ x, GFD Dp f) (n0 : H fl = none) (n1 : fl ≠ b) (n2 : fl ≠ g) (n3 : pl ≠ fl) (n4 : cl ≠ fl) :
    PtJ b g pl cl fl Dp H (L2.upd G fl (.lst (gas.map V.ref ++ [.ref p]))) (n + 1) := by
  have tk : TK G (L2.upd G fl (.lst (gas.map V.ref ++ [.ref p]))) := TK.upd h1 (fun xs e => nomatch e)
  obtain ⟨cas, cs, c1, c2, c3⟩ := h.cs
  refine ⟨BL.put h.bl n0, h.hb.put n1 n2, h.po.tk tk (fun xs e => by rw [upd_ne n3]; exact e), ⟨cas, cs, by rw [upd_ne n4]; exact c1, Paired.mapP c2 fun _ _ z => z.tk tk, c3⟩, ⟨gas ++ [p], gs ++ [x], by rw [upd_same, List.map_append]; rfl, Paired.snoc (Paired.mapP h2 fun _ _ z => z.tk tk) (hp.tk tk), fun y hy => ?_, by rw [List.length_append, List.length_singleton, h4]⟩⟩
  rcases List.mem_append.mp hy with z | z
  · exact h3 y z
  · rw [List.mem_singleton.mp z]; exact gx
theorem lst_inj {H : Hp} {a : Addr} {xs ys : List V} (h1 : H a = some (.lst xs)) (h2 : H a = some (.lst ys)) : xs = ys := by
  rw [h1] at h2
  exact HO.lst.inj (Option.some.inj h2)
section
variable {P : Program} {w : World} {K : PySem.W.Frag} {mg : Str → Option Value} {base : Heap}
theorem scPt : FnScope nPt ["hand", "most", "grounds"] (defScope sParts) := ⟨rfl, rfl, rfl, by decide +kernel, rfl, by decide +kernel, by decide +kernel⟩
theorem ok_parts {f : Addr} {fd : FuncData} {k : Nat} (F : Fun K "_law_parts" "_law_parts" sParts f fd) (T : Tx mg) (cD : Cal P w K mg base (k + 4) "_law_draw" ["hand", "many"] spDraw) (cA : Cal P w K mg base (k + 4) "_law_any" ["hand", "items"] spAny) (cP : Cal P w K mg base (k + 4) "_law_pool" ["hand", "many"] spPool) : FnOk P w K mg base CX0 (k + 5) f fd ["hand", "most", "grounds"] spParts := by
  refine F.ok scPt (fun vs H Q E h => ?_) (fun cdv A outer s H vs Q E hr h => ?_)
  · obtain ⟨b, g, m, n, rfl, _⟩ := h
    rfl
  · obtain ⟨b, g, m, n, rfl, hB, hm0, hm1, hn0, hn1, q⟩ := h
    refine ⟨_, (pss_cons (ps_asg (pe_tup (pa_cons (pe_c cP hr (by omega) (by rfl) (pa_cons (pv 0) (pa_cons (pe_op op_add pe_int (pe_c cD hr (by omega) (by rfl) (pa_cons (pv 0) (pa_cons pe_int pa_nil)))) pa_nil))) (pa_cons (pe_lst pa_nil) (pa_cons (pe_lst pa_nil) pa_nil)))) (pg_tup rfl (pgs_cons (pg_name (i := 3) scPt.nd rfl (Or.inr rfl)) (pgs_cons (pg_name (i := 4) scPt.nd rfl (Or.inl rfl)) (pgs_cons (pg_name (i := 5) scPt.nd rfl (Or.inl rfl)) pgs_nil))))) (pss_cons (ps_for PassesOwn.never rfl (pi_range1 (by rfl) T.range_ (pa_cons (pe_c cD hr (by omega) (by rfl) (pa_cons (pv 0) (pa_cons (pv 1) pa_nil))) pa_nil)) (pg_name (i := 6) scPt.nd rfl (Or.inl rfl)) (pss_cons (ps_set (i := 7) scPt.nd rfl (Or.inl rfl) (pe_c cA hr (by omega) (by rfl) (pa_cons (pv 0) (pa_cons (pe_lst (pa_cons pe_int (pa_cons pe_int (pa_cons pe_int (pa_cons pe_int (pa_cons pe_int (pa_cons pe_int (pa_cons pe_int (pa_cons pe_int (pa_cons pe_int pa_nil)))))))))) pa_nil)))) (pss_cons (ps_set (i := 7) scPt.nd rfl (Or.inl rfl) (pe_ifExp (pt_and (pt_cmpR op_eq (pv 7) pe_int (nomark _)) (pw_and1 (pt_cmpR op_gt (pe_c cD hr (by omega) (by rfl) (pa_cons (pv 0) (pa_cons pe_int pa_nil))) pe_int (nomark _)))) pe_int (pv 7))) (pss_cons (ps_expr (pe_bm PySem.F.plainAttrs_list PySem.F.slot_list_append PySem.F.type_list_append mt_append (pv 4) (pa_cons (pe_tup (pa_cons (pe_tupleOf (by rfl) T.tuple_ (pe_lc (own := [("k", 8)]) (g := gName 8) (te := tCall spAny [] E0 (tCons (tVar 0) (tCons (tVar 3) tNil))) rfl scPt.nd (pi_range1 (by rfl) T.range_ (pa_cons (pv 7) pa_nil)) (blkOk_by (N := nPt) (sc := defScope sParts) (by decide +kernel)) (fun _ _ _ _ _ => pg_name (i := 8) scPt.nd rfl (Or.inl rfl)) (fun _ _ _ _ _ => pts_nil) (fun _ _ _ _ _ => (pe_c cA hr (by omega) (by rfl) (pa_cons (pv 0) (pa_cons (pv 3) pa_nil)))))) (pa_cons (pe_c cA hr (by omega) (by rfl) (pa_cons (pv 0) (pa_cons (pv 3) pa_nil))) pa_nil))) pa_nil))) (pss_one (ps_if (pt_cmpR op_eq (pe_c cD hr (by omega) (by rfl) (pa_cons (pv 0) (pa_cons pe_int pa_nil))) pe_int (nomark _)) (pss_one (ps_expr (pe_bm PySem.F.plainAttrs_list PySem.F.slot_list_append PySem.F.type_list_append mt_append (pv 4) (pa_cons (pe_c cA hr (by omega) (by rfl) (pa_cons (pv 0) (pa_cons (pv 4) pa_nil))) pa_nil)))) pss_nil)))))) (pss_cons (ps_for PassesOwn.never rfl (pi_range1 (by rfl) T.range_ (pa_cons (pv 2) pa_nil)) (pg_name (i := 6) scPt.nd rfl (Or.inl rfl)) (pss_one (ps_expr (pe_bm PySem.F.plainAttrs_list PySem.F.slot_list_append PySem.F.type_list_append mt_append (pv 5) (pa_cons (pe_tupleOf (by rfl) T.tuple_ (pe_lc (own := [("k", 8)]) (g := gName 8) (te := tCall spAny [] E0 (tCons (tVar 0) (tCons (tVar 3) tNil))) rfl scPt.nd (pi_range1 (by rfl) T.range_ (pa_cons (pe_c cA hr (by omega) (by rfl) (pa_cons (pv 0) (pa_cons (pe_lst (pa_cons pe_int (pa_cons pe_int (pa_cons pe_int (pa_cons pe_int (pa_cons pe_int (pa_cons pe_int pa_nil))))))) pa_nil))) pa_nil)) (blkOk_by (N := nPt) (sc := defScope sParts) (by decide +kernel)) (fun _ _ _ _ _ => pg_name (i := 8) scPt.nd rfl (Or.inl rfl)) (fun _ _ _ _ _ => pts_nil) (fun _ _ _ _ _ => (pe_c cA hr (by omega) (by rfl) (pa_cons (pv 0) (pa_cons (pv 3) pa_nil)))))) pa_nil))))) (pss_one (ps_ret (pe_tup (pa_cons (pe_tupleOf (by rfl) T.tuple_ (pv 4)) (pa_cons (pe_tupleOf (by rfl) T.tuple_ (pv 5)) pa_nil)))))))), ?_⟩
    refine ⟨_, rfl, _, rfl, b, g, 10, rfl, hB, by decide, by decide, fun H1 r bl1 hB1 h10 h11 => ⟨_, _, rfl, rfl, b, g, _, rfl, hB1, by omega, by omega, fun H2 pl Dp bl2 hB2 npl hP2 => ?_⟩⟩
    refine ⟨by decide, fun cl ncl => ⟨by decide, fun fl nfl => ⟨by show 3 ≤ sizeLine; decide, fun tt ntt => ?_⟩⟩⟩
    have s1 := same_upd (o := HO.lst []) ncl
    have s2 := same_upd (o := HO.lst []) nfl
    have s3 := same_upd (o := HO.tup [.ref pl, .ref cl, .ref fl]) ntt
    have s123 := s1.trans (s2.trans s3)
    have htt : (upd (upd (upd H2 cl (.lst [])) fl (.lst [])) tt (.tup [.ref pl, .ref cl, .ref fl])) tt = some (.tup [.ref pl, .ref cl, .ref fl]) := upd_same
    have hcl3 := s3 _ _ (s2 _ _ (show (upd H2 cl (.lst [])) cl = some (.lst []) from upd_same))
    have hfl3 := s3 _ _ (show (upd (upd H2 cl (.lst [])) fl (.lst [])) fl = some (.lst []) from upd_same)
    have npb := hB1.nb npl
    have ncb := hB2.nb ncl
    have ncg := hB2.ng ncl
    have nfl2 : H2 fl = none := s1.free nfl
    have nfb := hB2.nb nfl2
    have nfg := hB2.ng nfl2
    have nfc : fl ≠ cl := fun e => by rw [e, upd_same] at nfl; cases nfl
    have npc : pl ≠ cl := fun e => by
      obtain ⟨_, h, _⟩ := hP2
      rw [e, ncl] at h; cases h
    have npf : pl ≠ fl := fun e => by
      obtain ⟨_, h, _⟩ := hP2
      rw [e, nfl2] at h; cases h
    have bl12 := bl1.trans bl2
    have nclH : H cl = none := bl12.nw ncl (by simpa using ncb)
    have nflH : H fl = none := bl12.nw nfl2 (by simpa using nfb)
    have pi3 : PtI b g pl cl fl Dp H (upd (upd (upd H2 cl (.lst [])) fl (.lst [])) tt (.tup [.ref pl, .ref cl, .ref fl])) 0 := ⟨bl12.trans (.same s123), hB2.same s123, hP2.tk (.same s123) (fun xs e => s123 _ _ e), ⟨[], [], hcl3, .nil, by simp, Nat.le_refl _⟩, hfl3⟩
    generalize hH3 : upd (upd (upd H2 cl (.lst [])) fl (.lst [])) tt (.tup [.ref pl, .ref cl, .ref fl]) = H3 at *
    refine ⟨tt, _, rfl, .of htt, rfl, _, _, rfl, _, _, rfl, _, _, rfl, rfl, ?_⟩
    refine ⟨_, rfl, _, rfl, b, g, m, rfl, pi3.hb, hm0, by omega, fun H4 r4 bl4 hB4 h40 h41 => ?_⟩
    have pi4 := pi3.step bl4 hB4 npb ncb nfb
    refine ⟨_, rfl, by omega, by omega, ?_⟩
    refine for_it (walk_range (lo := 0)) (fun i σ G => ∃ y6 y7 y8, σ = [some (.ref b), some (.int m), some (.int n), some (.ref pl), some (.ref cl), some (.ref fl), y6, y7, y8] ∧ PtI b g pl cl fl Dp H G (2 * i)) ⟨_, _, _, rfl, pi4⟩ (fun i σ G _ _ => trivial) ?_ ?_
    · rintro i y σ G G' hi ⟨y6, y7, y8, rfl, pI⟩ ⟨rfl, rfl⟩
      have hi2 : i < 100 := by omega
      refine ⟨_, rfl, by show 9 ≤ sizeLine; decide, fun l nl => ?_⟩
      have sl := same_upd (o := HO.lst [.int 0, .int 1, .int 1, .int 1, .int 2, .int 2, .int 2, .int 3, .int 4]) nl
      refine ⟨b, g, l, _, rfl, pI.hb.same sl, upd_same, pI.hb.nb nl, by simp, by decide, fun H5 v bl5 hB5 hv => ?_⟩
      obtain ⟨sz, hsz, rfl⟩ : ∃ sz : Int, (0 ≤ sz ∧ sz ≤ 4) ∧ v = .int sz := by
        have hv2 : v ∈ ([0, 1, 1, 1, 2, 2, 2, 3, 4] : List Int).map V.int := hv
        obtain ⟨z, hz, rfl⟩ := List.mem_map.mp hv2
        have hall : ∀ z ∈ ([0, 1, 1, 1, 2, 2, 2, 3, 4] : List Int), 0 ≤ z ∧ z ≤ 4 := by decide
        exact ⟨z, hall z hz, rfl⟩
      have pi5 := pI.step (.trans (.same sl) bl5) hB5 npb ncb nfb
      dsimp only [gName]
      refine seq_use (fun σ G5 => ∃ (sz : Int) (y8 : Option V), σ = [some (.ref b), some (.int m), some (.int n), some (.ref pl), some (.ref cl), some (.ref fl), some (.int (0 + (i : Nat))), some (.int sz), y8] ∧ 0 ≤ sz ∧ sz ≤ 4 ∧ PtI b g pl cl fl Dp H G5 (2 * i)) ?_ (fun hrest => ?_)
      · rintro σ G5 ⟨sz, y8, rfl, hz0, hz1, pI5⟩
        obtain ⟨cas5, cs5, d1, d2, d3, d4⟩ := pI5.cs
        refine ⟨_, rfl, .inl ⟨rfl, _, SqL.of d1⟩, _, rfl, sz, rfl, by omega, by omega, fun D nD => ?_⟩
        refine comp_facts (n := sz.toNat) pI5.hb pI5.po npb nD (by omega) (fun G6 as fs bl6 hB6 hD6 hp6 hg6 hl6 => ?_)
        refine .inl ⟨D, _, rfl, SqL.of hD6, fun t nt => ?_⟩
        have st := same_upd (o := HO.tup (as.map V.ref)) nt
        have ht7 : (upd G6 t (.tup (as.map V.ref))) t = some (.tup (as.map V.ref)) := upd_same
        have pI7 := (pI5.step bl6 hB6 npb ncb nfb).step (.same st) (hB6.same st) npb ncb nfb
        have hp7 := Paired.mapP hp6 fun _ _ z => FactAt.tk z (.same st)
        generalize hG7 : upd G6 t (.tup (as.map V.ref)) = G7 at *
        obtain ⟨xs, x1, x2, x3, x4⟩ := pI7.po.any
        refine ⟨_, rfl, _, rfl, b, g, pl, xs, rfl, pI7.hb, x1, npb, x2, by omega, fun H8 v bl8 hB8 hv => ?_⟩
        obtain ⟨ph, f, rfl, hf, gf⟩ := x4 v hv
        have tk8 := pI7.hb.tk bl8
        have pI8 := pI7.step bl8 hB8 npb ncb nfb
        refine ⟨by show 2 ≤ sizeLine; decide, fun p np => ?_⟩
        have sp := same_upd (o := HO.tup [.ref t, .ref ph]) np
        have hp9 : (upd H8 p (.tup [.ref t, .ref ph])) p = some (.tup [.ref t, .ref ph]) := upd_same
        have pI9 := pI8.step (.same sp) (hB8.same sp) npb ncb nfb
        have tk9 := TK.trans tk8 (.same sp)
        have hcl9 : ClAt (upd H8 p (.tup [.ref t, .ref ph])) p (fs, f) := ⟨t, ph, hp9, ⟨as, tk9 _ _ ht7, Paired.mapP hp7 fun _ _ z => FactAt.tk z tk9⟩, hf.tk tk9⟩
        generalize hG9 : upd H8 p (.tup [.ref t, .ref ph]) = G9 at *
        obtain ⟨cas9, cs9, c1, c2, c3, c4⟩ := pI9.cs
        have lc9 := Paired.len c2
        refine ⟨cl, _, _, rfl, rfl, c1, by rw [List.length_map]; exact Nat.lt_of_le_of_lt (show cas9.length ≤ 1000 by omega) (by decide), ?_⟩
        have pI10 := pI9.app c1 c2 c3 c4 hcl9 ⟨by show fs.length ≤ 4; omega, hg6, gf⟩ nclH ncb ncg npc nfc
        have hc10 : (upd G9 cl (.lst (cas9.map V.ref ++ [.ref p]))) cl = some (.lst (cas9.map V.ref ++ [.ref p])) := upd_same
        generalize hG10 : upd G9 cl (.lst (cas9.map V.ref ++ [.ref p])) = G10 at *
        refine ⟨_, rfl, b, g, 12, rfl, pI10.hb, by decide, by decide, fun H11 r bl11 hB11 _ _ => ⟨rfl, _, rfl, ?_⟩⟩
        have pI11 := pI10.step bl11 hB11 npb ncb nfb
        refine ite2 (fun _ => ?_) (fun _ => ?_)
        · have hc11 := bl11 _ _ (by simpa using ncb) hc10
          refine ⟨_, rfl, .inl ⟨rfl, _, SqL.of hc11⟩, _, rfl, _, rfl, b, g, cl, _, rfl, hB11, hc11, ncb, by simp, by rw [List.length_append, List.length_map, List.length_singleton]; omega, fun H12 v bl12 hB12 hv => ?_⟩
          have pI12 := pI11.step bl12 hB12 npb ncb nfb
          have hc12 := bl12 _ _ (by simpa using ncb) hc11
          obtain ⟨cas12, cs12, e1, e2, e3, e4⟩ := pI12.cs
          rw [lst_inj hc12 e1] at hv
          obtain ⟨j, hj⟩ := List.getElem?_of_mem hv
          obtain ⟨p2, hp2, rfl⟩ := ref_at hj
          obtain ⟨c0, hc0, hcc⟩ := Paired.at' e2 hp2
          have lc12 := Paired.len e2
          refine ⟨cl, _, _, rfl, rfl, e1, by rw [List.length_map]; exact Nat.lt_of_le_of_lt (show cas12.length ≤ 1000 by omega) (by decide), ?_⟩
          exact ⟨_, _, _, rfl, pI12.app e1 e2 e3 e4 hcc (e3 c0 (List.mem_of_getElem? hc0)) nclH ncb ncg npc nfc⟩
        · exact ⟨_, _, _, rfl, pI11.up (by omega)⟩
      · refine ⟨_, rfl, rfl, _, rfl, ?_⟩
        refine ite2 (fun _ => ?_) (fun _ => ?_)
        · refine ⟨_, rfl, b, g, 3, rfl, hB5, by decide, by decide, fun H6 r6 bl6 hB6 _ _ => ⟨_, _, rfl, rfl, _, rfl, ?_⟩⟩
          have pI6 := pi5.step bl6 hB6 npb ncb nfb
          refine ite2 (fun _ => ?_) (fun _ => ?_)
          · exact hrest _ _ ⟨1, _, rfl, by decide, by decide, pI6⟩
          · exact ⟨_, rfl, hrest _ _ ⟨sz, _, rfl, hsz.1, hsz.2, pI6⟩⟩
        · exact ⟨_, rfl, hrest _ _ ⟨sz, _, rfl, hsz.1, hsz.2, pi5⟩⟩
    · rintro σ G ⟨y6, y7, y8, rfl, pI⟩
      have hJ : PtJ b g pl cl fl Dp H G 0 := by
        obtain ⟨cas, cs, h1, h2, h3, h4⟩ := pI.cs
        exact ⟨pI.bl, pI.hb, pI.po, ⟨cas, cs, h1, h2, h3, by omega⟩, ⟨[], [], pI.fl, .nil, by simp, rfl⟩⟩
      refine ⟨_, rfl, n, rfl, by omega, by omega, ?_⟩
      refine for_it (walk_range (lo := 0)) (fun i σ G => ∃ y6 y7 y8, σ = [some (.ref b), some (.int m), some (.int n), some (.ref pl), some (.ref cl), some (.ref fl), y6, y7, y8] ∧ PtJ b g pl cl fl Dp H G i) ⟨_, _, _, rfl, hJ⟩ (fun i σ G _ _ => trivial) ?_ ?_
      · rintro i y σ G G' hi ⟨y6, y7, y8, rfl, pJ⟩ ⟨rfl, rfl⟩
        obtain ⟨gas5, gs5, d1, d2, d3, d4⟩ := pJ.fl
        refine ⟨_, rfl, .inl ⟨rfl, _, SqL.of d1⟩, _, rfl, by show 6 ≤ sizeLine; decide, fun l nl => ?_⟩
        have sl := same_upd (o := HO.lst [.int 0, .int 1, .int 1, .int 2, .int 2, .int 3]) nl
        refine ⟨b, g, l, _, rfl, pJ.hb.same sl, upd_same, pJ.hb.nb nl, by simp, by decide, fun H5 v bl5 hB5 hv => ?_⟩
        obtain ⟨sz, hsz, rfl⟩ : ∃ sz : Int, (0 ≤ sz ∧ sz ≤ 3) ∧ v = .int sz := by
          have hv2 : v ∈ ([0, 1, 1, 2, 2, 3] : List Int).map V.int := hv
          obtain ⟨z, hz, rfl⟩ := List.mem_map.mp hv2
          have hall : ∀ z ∈ ([0, 1, 1, 2, 2, 3] : List Int), 0 ≤ z ∧ z ≤ 3 := by decide
          exact ⟨z, hall z hz, rfl⟩
        have pJ5 := pJ.step (.trans (.same sl) bl5) hB5 npb ncb nfb
        refine ⟨sz, rfl, by omega, by omega, fun D nD => ?_⟩
        refine comp_facts (n := sz.toNat) pJ5.hb pJ5.po npb nD (by omega) (fun G6 as fs bl6 hB6 hD6 hp6 hg6 hl6 => ?_)
        refine .inl ⟨D, _, rfl, SqL.of hD6, fun t nt => ?_⟩
        have st := same_upd (o := HO.tup (as.map V.ref)) nt
        have pJ7 := (pJ5.step bl6 hB6 npb ncb nfb).step (.same st) (hB6.same st) npb ncb nfb
        have hft : FactsAt (upd G6 t (.tup (as.map V.ref))) t fs := ⟨as, upd_same, Paired.mapP hp6 fun _ _ z => FactAt.tk z (.same st)⟩
        generalize hG7 : upd G6 t (.tup (as.map V.ref)) = G7 at *
        obtain ⟨gas7, gs7, c1, c2, c3, c4⟩ := pJ7.fl
        have lc7 := Paired.len c2
        refine ⟨fl, _, _, rfl, rfl, c1, by rw [List.length_map]; exact Nat.lt_of_le_of_lt (show gas7.length ≤ 60 by omega) (by decide), ?_⟩
        exact ⟨_, _, _, rfl, pJ7.app c1 c2 c3 c4 hft ⟨by omega, hg6⟩ nflH nfb nfg npf (Ne.symm nfc)⟩
      · rintro σ G ⟨y6, y7, y8, rfl, pJ⟩
        obtain ⟨cas, cs, c1, c2, c3, c4⟩ := pJ.cs
        obtain ⟨gas, gs, g1, g2, g3, g4⟩ := pJ.fl
        refine ⟨_, rfl, .inl ⟨cl, _, rfl, SqL.of c1, fun ca nca => ?_⟩⟩
        have sa := same_upd (o := HO.tup (cas.map V.ref)) nca
        refine ⟨_, rfl, .inl ⟨fl, _, rfl, SqL.of (sa _ _ g1), fun ga nga => ?_⟩⟩
        have sb := same_upd (o := HO.tup (gas.map V.ref)) nga
        refine ⟨by show 2 ≤ sizeLine; decide, fun p np => ?_⟩
        have sc := same_upd (o := HO.tup [.ref ca, .ref ga]) np
        have sabc := sa.trans (sb.trans sc)
        refine q _ p ca ga cs gs (pJ.bl.trans (.same sabc)) (pJ.hb.same sabc) upd_same ⟨cas, sc _ _ (sb _ _ upd_same), Paired.mapP c2 fun _ _ z => z.tk (.same sabc)⟩ ⟨gas, sc _ _ upd_same, Paired.mapP g2 fun _ _ z => z.tk (.same sabc)⟩ ⟨fun c hc => ⟨(c3 c hc).1, fun f hf => ((c3 c hc).2.1 f hf).1, (c3 c hc).2.2.1⟩, fun x hx f hf => ((g3 x hx).2 f hf).1, by omega, by omega, fun x hx => by have := (g3 x hx).1; omega⟩ g4 ⟨Dp, pJ.po.few, fun c hc => ⟨fun f hf => ((c3 c hc).2.1 f hf).2, (c3 c hc).2.2.2⟩, fun x hx f hf => ((g3 x hx).2 f hf).2, c4, fun x hx => (g3 x hx).1⟩
end
end L2.My
end
section
set_option Elab.async false
set_option linter.all false
set_option maxRecDepth 100000
set_option maxHeartbeats 4000000
namespace L2.My
open PySem PySem.Spec PyProof.Rows
abbrev sMade : Stmt := top 42
abbrev sGf : Stmt := top 43
abbrev sLlot : Stmt := top 45
def spMade (C : Addr) : Sp := fun vs H Q _ => ∃ (p ca ga : Addr) (cs : List Cz) (gs : List (List Fc)), vs = [.ref p] ∧ H p = some (.tup [.ref ca, .ref ga]) ∧ ClsAt H ca cs ∧ GrsAt H ga gs ∧ GR cs gs ∧ ∀ H' r dr, Same H H' → RuleAt H' C r dr ca ga cs gs → Q (.ref r) H'
def gfs (gs : List (List Fc)) (ns : List Nat) : List Fc := ns.flatMap fun n => gs[n]?.getD []
def spGfX (kind : List V → HO) : Sp := fun vs H Q _ => ∃ (p lt ca ga : Addr) (gs : List (List Fc)) (ns : List Nat), vs = [.ref p, .ref lt] ∧ H p = some (.tup [.ref ca, .ref ga]) ∧ GrsAt H ga gs ∧ (∀ x ∈ gs, x.length ≤ 1000 ∧ ∀ f ∈ x, GF f) ∧ H lt = some (kind (nI ns)) ∧ (∀ n ∈ ns, n < gs.length) ∧ ns.length ≤ 60 ∧ ∀ H' l as fs, Same H H' → H' l = some (.lst (as.map .ref)) → Paired (FactAt H') as fs → (∀ f ∈ fs, GF f) → fs.length ≤ 60000 → fs = gfs gs ns → Q (.ref l) H'
abbrev spGf : Sp := spGfX HO.lst
abbrev spGfT : Sp := spGfX HO.tup
def spLlot : Sp := fun vs H Q _ => ∃ (b g : Addr) (m : Int), vs = [.ref b, .int m] ∧ HandAt H b g ∧ 0 ≤ m ∧ m ≤ 60 ∧ ∀ H' l (ns : List Nat), BL [b] H H' → HandAt H' b g → H' l = some (.tup (nI ns)) → ns.length ≤ 60 → (∀ n ∈ ns, n < m.toNat) → (∀ (i x y : Nat), ns[i]? = some x → ns[i + 1]? = some y → x < y) → Q (.ref l) H'
section
variable {P : Program} {w : World} {K : PySem.W.Frag} {mg : Str → Option Value} {base : Heap} {C B : Addr}
theorem scMade : FnScope ["parts"] ["parts"] (defScope sMade) := ⟨rfl, rfl, rfl, by decide +kernel, rfl, by decide +kernel, by decide +kernel⟩
theorem ok_made {f : Addr} {fd : FuncData} {k : Nat} (F : Fun K "_law_made" "_law_made" sMade f fd) (T : Tx mg) (cR : Mak P w K mg base (k + 5) C "Rule" ["self", "clauses", "grounds"] (spRule C B)) : FnOk P w K mg base CX0 (k + 7) f fd ["parts"] (spMade C) := by
  refine F.ok scMade (fun vs H Q E h => ?_) (fun cdv A outer s H vs Q E hr h => ?_)
  · obtain ⟨p, ca, ga, cs, gs, rfl, _⟩ := h
    rfl
  · obtain ⟨p, ca, ga, cs, gs, rfl, hp, hc, hg, hG, q⟩ := h
    refine ⟨_, (pss_one (ps_ret (pe_mk cR hr (by omega) (by rfl) (pa_cons (pe_ix ix_tup (pv 0) pe_int (fun _ _ => rfl)) (pa_cons (pe_ix ix_tup (pv 0) pe_int (fun _ _ => rfl)) pa_nil))))), ?_⟩
    refine ⟨_, rfl, p, _, _, .ref ca, rfl, rfl, .of hp, atI_nat (j := 0) rfl, _, rfl, p, _, _, .ref ga, rfl, rfl, .of hp, atI_nat (j := 1) rfl, fun x dx nx ndx ne => ?_⟩
    have s1 : Same H (upd (upd H dx (.own x)) x (.ins C dx [])) := (same_upd ndx).trans (same_upd (by rw [upd_ne (Ne.symm ne)]; exact nx))
    have hx1 : (upd (upd H dx (.own x)) x (.ins C dx [])) x = some (.ins C dx []) := upd_same
    have nt : NoTup (upd (upd H dx (.own x)) x (.ins C dx [])) x := fun xs e => by rw [hx1] at e; cases e
    have hc1 := hc.tk (.same s1)
    have hg1 := hg.tk (.same s1)
    refine ⟨x, x, dx, .ref ca, .ref ga, rfl, hx1, thg_cls nt hc1 hG.cl (Nat.le_trans hG.nc (by decide)), thg_grs nt hg1 (fun y hy => ⟨hG.gr y hy, Nat.le_trans (hG.nf y hy) (by decide)⟩) (Nat.le_trans hG.ng (by decide)), fun _ H' bl hx2 => ⟨rfl, q _ x dx (fun a o e => bl a o (by
      rw [List.mem_singleton]
      intro e2
      rw [e2, nx] at e; cases e) (s1 a o e)) ⟨hx2, hc1.tk (.bl bl (fun p hp => by rw [List.mem_singleton.mp hp]; exact nt)), hg1.tk (.bl bl (fun p hp => by rw [List.mem_singleton.mp hp]; exact nt))⟩⟩, fun p hp => by rw [fault_ok hc1 hg1 hG] at hp; cases hp⟩
theorem scGf : FnScope ["parts", "lot", "found", "number"] ["parts", "lot"] (defScope sGf) := ⟨rfl, rfl, rfl, by decide +kernel, rfl, by decide +kernel, by decide +kernel⟩
theorem ok_gf {f : Addr} {fd : FuncData} {k : Nat} (F : Fun K "_law_ground_facts" "_law_ground_facts" sGf f fd) (T : Tx mg) : FnOk P w K mg base CX0 (k + 1) f fd ["parts", "lot"] spGf := by
  refine F.ok scGf (fun vs H Q E h => ?_) (fun cdv A outer s H vs Q E hr h => ?_)
  · obtain ⟨p, lt, ca, ga, gs, ns, rfl, _⟩ := h
    rfl
  · obtain ⟨p, lt, ca, ga, gs, ns, rfl, hp, ⟨gas, hga, hgp⟩, hG, hlt, hnb, hnl, q⟩ := h
    refine ⟨_, (pss_cons (ps_set (i := 2) scGf.nd rfl (Or.inl rfl) (pe_lst pa_nil)) (pss_cons (ps_for PassesOwn.never rfl (pi_list (pv 1)) (pg_name (i := 3) scGf.nd rfl (Or.inl rfl)) (pss_one (ps_expr (pe_bm PySem.F.plainAttrs_list PySem.F.slot_list_extend PySem.F.type_list_extend mt_extend (pv 2) (pa_cons (pe_callTy call_list_of (by rfl) T.list_ (by decide +kernel) (pa_cons (pe_ix ix_tup (pe_ix ix_tup (pv 0) pe_int (fun _ _ => rfl)) (pv 3) (fun _ _ => rfl)) pa_nil)) pa_nil))))) (pss_one (ps_ret (pv 2))))), ?_⟩
    refine ⟨by decide, fun l nl => ?_⟩
    have s1 := same_upd (o := HO.lst []) nl
    refine ⟨_, rfl, lt, rfl, ⟨_, SqL.of (s1 _ _ hlt)⟩, ?_⟩
    refine for_it (walk_list (xs := nI ns)) (fun i σ G => ∃ y3, σ = [some (.ref p), some (.ref lt), some (.ref l), y3] ∧ Same H G ∧ ∃ as fs, G l = some (.lst (as.map .ref)) ∧ Paired (FactAt G) as fs ∧ (∀ f ∈ fs, GF f) ∧ fs.length ≤ 1000 * i ∧ fs = gfs gs (ns.take i)) ⟨_, rfl, s1, [], [], upd_same, .nil, by simp, Nat.zero_le _, by simp [gfs]⟩ (fun i σ G _ h => ?_) ?_ ?_
    · obtain ⟨_, rfl, h, _⟩ := h
      exact SqL.of (h _ _ hlt)
    · rintro i v σ G G' hi ⟨y3, rfl, sm, as, fs, h1, h2, h3, h4, h5⟩ ⟨rfl, hv⟩
      obtain ⟨n, hn, rfl⟩ := nI_at hv
      have hng := hnb n (List.mem_of_getElem? hn)
      obtain ⟨x, hx⟩ : ∃ x, gs[n]? = some x := ⟨_, List.getElem?_eq_getElem hng⟩
      obtain ⟨pg, hpg, bs, hb1, hb2⟩ := Paired.at hgp hx
      have hgx := hG x (List.mem_of_getElem? hx)
      have lb := Paired.len hb2
      have la := Paired.len h2
      have li : (nI ns).length = ns.length := by unfold nI; simp
      refine ⟨_, rfl, .inl ⟨rfl, _, SqL.of h1⟩, _, rfl, p, _, _, .ref ga, rfl, rfl, .of (sm _ _ hp), atI_nat (j := 1) rfl, _, rfl, ga, _, _, .ref pg, rfl, rfl, .of (sm _ _ hga), atI_nat (j := n) (by rw [List.getElem?_map, hpg]; rfl), pg, _, rfl, .inr (.of (sm _ _ hb1)), fun d nd => ?_⟩
      have s2 := same_upd (o := HO.lst (bs.map V.ref)) nd
      refine ⟨l, d, _, _, rfl, rfl, s2 _ _ h1, upd_same, ?_, ?_⟩
      · rw [List.length_map, List.length_map]
        exact Nat.le_trans (show as.length + bs.length ≤ 62000 by omega) (by decide)
      · have tk : TK G' (upd (upd G' d (.lst (bs.map V.ref))) l (.lst (as.map V.ref ++ bs.map V.ref))) := TK.trans (.same s2) (TK.upd (s2 _ _ h1) (fun xs e => nomatch e))
        refine ⟨_, rfl, same_put (sm.trans s2) nl, as ++ bs, fs ++ x, by rw [upd_same, List.map_append], ?_, fun f hf => ?_, by rw [List.length_append]; omega, by rw [take_snoc hn, h5]; simp [gfs, hx]⟩
        · exact paired_app (Paired.mapP h2 fun _ _ z => z.tk tk) (Paired.mapP hb2 fun _ _ z => z.tk (TK.trans (.same sm) tk))
        · rcases List.mem_append.mp hf with h | h
          · exact h3 f h
          · exact hgx.2 f h
    · rintro σ G ⟨y3, rfl, sm, as, fs, h1, h2, h3, h4, h5⟩
      have li : (nI ns).length = ns.length := by unfold nI; simp
      exact ⟨_, rfl, q G l as fs sm h1 h2 h3 (by omega) (by rw [h5, li, List.take_length])⟩
theorem ok_gfT {f : Addr} {fd : FuncData} {k : Nat} (F : Fun K "_law_ground_facts" "_law_ground_facts" sGf f fd) (T : Tx mg) : FnOk P w K mg base CX0 (k + 1) f fd ["parts", "lot"] spGfT := by
  refine F.ok scGf (fun vs H Q E h => ?_) (fun cdv A outer s H vs Q E hr h => ?_)
  · obtain ⟨p, lt, ca, ga, gs, ns, rfl, _⟩ := h
    rfl
  · obtain ⟨p, lt, ca, ga, gs, ns, rfl, hp, ⟨gas, hga, hgp⟩, hG, hlt, hnb, hnl, q⟩ := h
    refine ⟨_, (pss_cons (ps_set (i := 2) scGf.nd rfl (Or.inl rfl) (pe_lst pa_nil)) (pss_cons (ps_for PassesOwn.never rfl (pi_tup (pv 1)) (pg_name (i := 3) scGf.nd rfl (Or.inl rfl)) (pss_one (ps_expr (pe_bm PySem.F.plainAttrs_list PySem.F.slot_list_extend PySem.F.type_list_extend mt_extend (pv 2) (pa_cons (pe_callTy call_list_of (by rfl) T.list_ (by decide +kernel) (pa_cons (pe_ix ix_tup (pe_ix ix_tup (pv 0) pe_int (fun _ _ => rfl)) (pv 3) (fun _ _ => rfl)) pa_nil)) pa_nil))))) (pss_one (ps_ret (pv 2))))), ?_⟩
    refine ⟨by decide, fun l nl => ?_⟩
    have s1 := same_upd (o := HO.lst []) nl
    refine ⟨_, rfl, lt, rfl, ⟨_, .of (s1 _ _ hlt)⟩, ?_⟩
    refine for_it (walk_tup (xs := nI ns)) (fun i σ G => ∃ y3, σ = [some (.ref p), some (.ref lt), some (.ref l), y3] ∧ Same H G ∧ ∃ as fs, G l = some (.lst (as.map .ref)) ∧ Paired (FactAt G) as fs ∧ (∀ f ∈ fs, GF f) ∧ fs.length ≤ 1000 * i ∧ fs = gfs gs (ns.take i)) ⟨_, rfl, s1, [], [], upd_same, .nil, by simp, Nat.zero_le _, by simp [gfs]⟩ (fun i σ G _ h => ?_) ?_ ?_
    · obtain ⟨_, rfl, h, _⟩ := h
      exact .of (h _ _ hlt)
    · rintro i v σ G G' hi ⟨y3, rfl, sm, as, fs, h1, h2, h3, h4, h5⟩ ⟨rfl, hv⟩
      obtain ⟨n, hn, rfl⟩ := nI_at hv
      have hng := hnb n (List.mem_of_getElem? hn)
      obtain ⟨x, hx⟩ : ∃ x, gs[n]? = some x := ⟨_, List.getElem?_eq_getElem hng⟩
      obtain ⟨pg, hpg, bs, hb1, hb2⟩ := Paired.at hgp hx
      have hgx := hG x (List.mem_of_getElem? hx)
      have lb := Paired.len hb2
      have la := Paired.len h2
      have li : (nI ns).length = ns.length := by unfold nI; simp
      refine ⟨_, rfl, .inl ⟨rfl, _, SqL.of h1⟩, _, rfl, p, _, _, .ref ga, rfl, rfl, .of (sm _ _ hp), atI_nat (j := 1) rfl, _, rfl, ga, _, _, .ref pg, rfl, rfl, .of (sm _ _ hga), atI_nat (j := n) (by rw [List.getElem?_map, hpg]; rfl), pg, _, rfl, .inr (.of (sm _ _ hb1)), fun d nd => ?_⟩
      have s2 := same_upd (o := HO.lst (bs.map V.ref)) nd
      refine ⟨l, d, _, _, rfl, rfl, s2 _ _ h1, upd_same, ?_, ?_⟩
      · rw [List.length_map, List.length_map]
        exact Nat.le_trans (show as.length + bs.length ≤ 62000 by omega) (by decide)
      · have tk : TK G' (upd (upd G' d (.lst (bs.map V.ref))) l (.lst (as.map V.ref ++ bs.map V.ref))) := TK.trans (.same s2) (TK.upd (s2 _ _ h1) (fun xs e => nomatch e))
        refine ⟨_, rfl, same_put (sm.trans s2) nl, as ++ bs, fs ++ x, by rw [upd_same, List.map_append], ?_, fun f hf => ?_, by rw [List.length_append]; omega, by rw [take_snoc hn, h5]; simp [gfs, hx]⟩
        · exact paired_app (Paired.mapP h2 fun _ _ z => z.tk tk) (Paired.mapP hb2 fun _ _ z => z.tk (TK.trans (.same sm) tk))
        · rcases List.mem_append.mp hf with h | h
          · exact h3 f h
          · exact hgx.2 f h
    · rintro σ G ⟨y3, rfl, sm, as, fs, h1, h2, h3, h4, h5⟩
      have li : (nI ns).length = ns.length := by unfold nI; simp
      exact ⟨_, rfl, q G l as fs sm h1 h2 h3 (by omega) (by rw [h5, li, List.take_length])⟩
end
end L2.My
end
section
set_option Elab.async false
set_option linter.all false
set_option maxRecDepth 100000
set_option maxHeartbeats 4000000
namespace L2.My
open PySem PySem.Spec PyProof.Rows
theorem cls_heads {H : Hp} {cas : List Addr} {cs : List Cz} (h : Paired (ClAt H) cas cs) : ∃ hs : List Addr, Paired (fun pc ph => ∃ pb, H pc = some (.tup [.ref pb, .ref ph])) cas hs ∧ Paired (FactAt H) hs (cs.map (·.2)) := by
  induction h with
  | nil => exact ⟨[], .nil, .nil⟩
  | cons r _ ih =>
    obtain ⟨hs, h1, h2⟩ := ih
    obtain ⟨pb, ph, e1, _, e2⟩ := r
    exact ⟨ph :: hs, .cons ⟨pb, e1⟩ h1, .cons e2 h2⟩
theorem refs_of {hs : List Addr} : ((List.range hs.length).map fun j => V.ref (hs.getD j 0)) = hs.map V.ref := by
  refine List.ext_getElem (by simp) fun i h1 h2 => ?_
  simp only [List.getElem_map, List.getElem_range, List.getD_eq_getElem?_getD]
  rw [List.length_map] at h2
  rw [List.getElem?_eq_getElem h2]
  rfl
theorem rgV_nI (n : Nat) : rgV 0 (n : Int) = nI (List.range n) := by
  unfold rgV nI
  rw [Int.sub_zero, Int.toNat_natCast]
  exact List.map_congr_left fun i _ => by rw [Int.zero_add]
section
variable {P : Program} {w : World} {K : PySem.W.Frag} {mg : Str → Option Value} {base : Heap} {C : Addr}
theorem scLl : FnScope ["hand", "many", "k"] ["hand", "many"] (defScope sLlot) := ⟨rfl, rfl, rfl, by decide +kernel, rfl, by decide +kernel, by decide +kernel⟩
theorem ok_llot {f : Addr} {fd : FuncData} {k : Nat} (F : Fun K "_law_lot" "_law_lot" sLlot f fd) (T : Tx mg) (cD : Cal P w K mg base (k + 1) "_law_draw" ["hand", "many"] spDraw) : FnOk P w K mg base CX0 (k + 2) f fd ["hand", "many"] spLlot := by
  refine F.ok scLl (fun vs H Q E h => ?_) (fun cdv A outer s H vs Q E hr h => ?_)
  · obtain ⟨b, g, m, rfl, _⟩ := h
    rfl
  · obtain ⟨b, g, m, rfl, hB, hm0, hm1, q⟩ := h
    refine ⟨_, (pss_cons (ps_if (pt_cmpR op_eq (pe_c cD hr (by omega) (by rfl) (pa_cons (pv 0) (pa_cons pe_int pa_nil))) pe_int (nomark _)) (pss_one (ps_ret (pe_tupleOf (by rfl) T.tuple_ (pe_listRg rfl (by rfl) T.list_ (prg_1 (by rfl) T.range_ (pv 1)))))) pss_nil) (pss_one (ps_ret (pe_tupleOf (by rfl) T.tuple_ (pe_lc (own := [("k", 2)]) (g := gName 2) (te := tVar 2) (tt := tTest (tOp rEq (tCall spDraw [] E0 (tCons (tVar 0) (tCons (tC (.int 2)) tNil))) (tC (.int 0)))) rfl scLl.nd (pi_range1 (by rfl) T.range_ (pa_cons (pv 1) pa_nil)) (blkOk_by (N := ["hand", "many", "k"]) (sc := defScope sLlot) (by decide +kernel)) (fun _ _ _ _ _ => pg_name (i := 2) scLl.nd rfl (Or.inl rfl)) (fun _ _ _ _ _ => (pts_one (pt_cmpR op_eq (pe_c cD hr (by omega) (by rfl) (pa_cons (pv 0) (pa_cons pe_int pa_nil))) pe_int (nomark _)))) (fun _ _ _ _ _ => (pv 2))))))), ?_⟩
    refine ⟨_, rfl, b, g, 4, rfl, hB, by decide, by decide, fun H1 r bl1 hB1 _ _ => ⟨rfl, _, rfl, ?_⟩⟩
    obtain ⟨n, rfl⟩ : ∃ n : Nat, m = n := ⟨m.toNat, by omega⟩
    refine ite2 (fun _ => ?_) (fun _ => ?_)
    · refine ⟨_, rfl, _, rfl, RgOk.of_le (by decide) (by omega) (by decide) (by omega), fun l nl => .inl ⟨l, _, rfl, SqL.of upd_same, fun t nt => ?_⟩⟩
      rw [rgV_nI] at *
      have s2 := same_upd (o := HO.lst (nI (List.range n))) nl
      have s3 := same_upd (o := HO.tup (nI (List.range n))) nt
      refine q _ t (List.range n) (bl1.trans (.same (s2.trans s3))) (hB1.same (s2.trans s3)) upd_same (by rw [List.length_range]; omega) (fun x hx => by rw [Int.toNat_natCast]; exact List.mem_range.mp hx) fun i x y hx hy => ?_
      have hi := (List.getElem?_eq_some_iff.mp hx)
      have hj := (List.getElem?_eq_some_iff.mp hy)
      obtain ⟨_, e1⟩ := hi
      obtain ⟨_, e2⟩ := hj
      rw [List.getElem_range] at e1 e2
      omega
    · refine ⟨_, rfl, (n : Int), rfl, by omega, by omega, fun D nD => ?_⟩
      have nDb := hB1.nb nD
      have nDg := hB1.ng nD
      refine lc_it (walk_range (lo := 0)) (fun i G => BL [b] H1 G ∧ HandAt G b g ∧ ∃ ns : List Nat, G D = some (.lst (nI ns)) ∧ ns.length ≤ i ∧ (∀ x ∈ ns, x < i) ∧ ∀ (j x y : Nat), ns[j]? = some x → ns[j + 1]? = some y → x < y) ⟨.same (same_upd nD), hB1.same (same_upd nD), [], upd_same, Nat.le_refl _, by simp, by simp⟩ (fun i G _ _ => trivial) ?_ ?_
      · rintro i y G G' hi ⟨bl, hBg, ns, h1, h2, h3, h4⟩ ⟨rfl, rfl⟩
        rw [Int.toNat_natCast] at hi
        refine ⟨rfl, _, rfl, b, g, 2, rfl, hBg, by decide, by decide, fun H5 r5 bl5 hB5 _ _ => ⟨rfl, _, rfl, ?_⟩⟩
        have h15 := bl5 _ _ (by simpa using nDb) h1
        refine ite2 (fun _ => ?_) (fun _ => ?_)
        · refine ⟨_, rfl, _, h15, ?_, BL.put (bl.trans bl5) nD, hB5.put nDb nDg, ns ++ [i], ?_, by rw [List.length_append, List.length_singleton]; omega, fun x hx => ?_, fun j x y hx hy => ?_⟩
          · unfold nI
            rw [List.length_map]
            exact Nat.lt_of_le_of_lt (show ns.length ≤ 60 by omega) (by decide)
          · rw [upd_same]
            unfold nI
            rw [List.map_append]
            show some (HO.lst (_ ++ [V.int (0 + ((i : Nat) : Int))])) = _
            rw [Int.zero_add]
            rfl
          · rcases List.mem_append.mp hx with h | h
            · exact Nat.lt_succ_of_lt (h3 x h)
            · rw [List.mem_singleton.mp h]; exact Nat.lt_succ_self _
          · by_cases hj : j + 1 < ns.length
            · rw [List.getElem?_append_left (by omega)] at hx hy
              exact h4 j x y hx hy
            · have hj2 : j + 1 = ns.length := by
                have := (List.getElem?_eq_some_iff.mp hy).1
                rw [List.length_append, List.length_singleton] at this
                omega
              rw [List.getElem?_append_left (by omega)] at hx
              rw [List.getElem?_append_right (by omega), hj2, Nat.sub_self] at hy
              cases hy
              exact h3 x (List.mem_of_getElem? hx)
        · exact ⟨bl.trans bl5, hB5, ns, h15, by omega, fun x hx => Nat.lt_succ_of_lt (h3 x hx), h4⟩
      · rintro G ⟨bl, hBg, ns, h1, h2, h3, h4⟩
        refine .inl ⟨D, _, rfl, SqL.of h1, fun t nt => ?_⟩
        have s3 := same_upd (o := HO.tup (nI ns)) nt
        rw [Int.toNat_natCast] at h2 h3
        exact q _ t ns (bl1.trans (bl.trans (.same s3))) (hBg.same s3) upd_same (by omega) (fun x hx => by rw [Int.toNat_natCast]; exact h3 x hx) h4
end
end L2.My
end
section
set_option Elab.async false
set_option linter.all false
set_option maxRecDepth 100000
set_option maxHeartbeats 4000000
namespace L2.My
open PySem PySem.Spec PyProof.Rows
abbrev sRnd : Stmt := top 46
abbrev nRn : List Str := ["parts", "lot", "without", "found", "number", "one", "turn", "fresh", "body", "head"]
def exV (ex : Option Nat) : V := match ex with
  | none => .non
  | some k => .int (k : Nat)
theorem mem_putK {kvs : List (Fc × V)} {k f : Fc} {v : V} : f ∈ (putK kvs k v).map (·.1) ↔ f ∈ kvs.map (·.1) ∨ f = k := by
  rw [keys_putK]
  split
  · rename_i h
    constructor
    · exact .inl
    · rintro (z | rfl)
      · exact z
      · exact h
  · rw [List.mem_append, List.mem_singleton]
def FM (G : Hp) (d : Addr) (vl : Fc → V) (S : Fc → Prop) (N : Nat) : Prop := ∃ kvs : List (Fc × V), G d = some (.dT kvs) ∧ kvs.length ≤ N ∧ (kvs.map (·.1)).Nodup ∧ (∀ f, f ∈ kvs.map (·.1) ↔ S f) ∧ ∀ f, S f → valV kvs f = some (vl f)
section
variable {vl : Fc → V} {G G' : Hp} {d p : Addr} {S S' : Fc → Prop} {N N' : Nat} {k : Fc}
theorem FM.same (h : FM G d vl S N) (s : Same G G') : FM G' d vl S N := by
  obtain ⟨kvs, h1, h2⟩ := h
  exact ⟨kvs, s _ _ h1, h2⟩
theorem FM.ext (h : FM G d vl S N) (e : ∀ f, S f ↔ S' f) (hN : N ≤ N') : FM G d vl S' N' := by
  obtain ⟨kvs, h1, h2, h3, h4, h5⟩ := h
  exact ⟨kvs, h1, Nat.le_trans h2 hN, h3, fun f => (h4 f).trans (e f), fun f hf => h5 f ((e f).mpr hf)⟩
theorem FM.put (h : FM G d vl S N) (hN : N < sizeLine) (hp : FactAt G p k) {v : V} (hv : v = vl k) : ∃ kvs, DPut G d (.ref p) v (upd G d (.dT kvs)) ∧ FM (upd G d (.dT kvs)) d vl (fun f => S f ∨ f = k) (N + 1) ∧ TK G (upd G d (.dT kvs)) := by
  obtain ⟨kvs, h1, h2, h3, h4, h5⟩ := h
  refine ⟨putK kvs k v, DPut.t h1 hp (Nat.lt_of_le_of_lt h2 hN), ⟨_, upd_same, Nat.le_trans (length_putK _ _ _) (Nat.succ_le_succ h2), ?_, fun f => ?_, fun f hf => ?_⟩, TK.upd h1 (fun xs e => nomatch e)⟩
  · rw [keys_putK]
    split
    · exact h3
    · rename_i hn
      exact List.nodup_append.mpr ⟨h3, by simp, fun a ha b hb => by rw [List.mem_singleton.mp hb]; exact fun e => hn (e ▸ ha)⟩
  · rw [mem_putK, h4]
  · rw [valV_put]
    by_cases e : f = k
    · rw [if_pos e, e, hv]
    · rw [if_neg e]
      exact h5 f (hf.resolve_right e)
open Classical in
theorem FM.get (h : FM G d vl S N) (hp : FactAt G p k) : ∃ o, DGet G d (.ref p) o ∧ o.isSome = decide (S k) ∧ (S k → o = some (vl k)) := by
  obtain ⟨kvs, h1, h2, h3, h4, h5⟩ := h
  refine ⟨_, DGet.t h1 hp, ?_, h5 k⟩
  cases e : valV kvs k with
  | none => exact (decide_eq_false (fun z => valV_iff.mp e ((h4 k).mpr z))).symm
  | some v =>
    refine (decide_eq_true ?_).symm
    refine (h4 k).mp (Classical.byContradiction fun z => ?_)
    rw [valV_iff.mpr z] at e; cases e
end
theorem all_getD {b : List Fc} {n : Nat} (hn : n = b.length) {p : Fc → Bool} : ((List.range n).map fun j => p (b.getD j [])).all id = b.all p := by
  subst hn
  have e : ((List.range b.length).map fun j => p (b.getD j [])) = b.map p := by
    refine List.ext_getElem (by simp) fun i h1 h2 => ?_
    simp only [List.getElem_map, List.getElem_range, List.getD_eq_getElem?_getD]
    rw [List.length_map] at h2
    rw [List.getElem?_eq_getElem h2]
    rfl
  rw [e, List.all_map]
  rfl
def spRnd : Sp := fun vs H Q _ => ∃ (p lt ca ga : Addr) (cs : List Cz) (gs : List (List Fc)) (ns : List Nat) (ex : Option Nat), vs = [.ref p, .ref lt, exV ex] ∧ H p = some (.tup [.ref ca, .ref ga]) ∧ ClsAt H ca cs ∧ GrsAt H ga gs ∧ GR cs gs ∧ H lt = some (.tup (nI ns)) ∧ ns.length ≤ 60 ∧ (∀ n ∈ ns, n < gs.length) ∧ ex = none ∧
  ∀ H' d, Same H H' → FM H' d (rdV cs (Gof gs ns)) (Der cs (Gof gs ns) none) 10000000 → Q (.ref d) H'
open Classical in
noncomputable def un (cs : List Cz) (S : Fc → Prop) : Nat := ((List.range cs.length).filter fun c => decide (¬ S (hd cs c))).length
open Classical in
theorem un_lt {cs : List Cz} {S S' : Fc → Prop} (h : ∀ f, S f → S' f) {c : Nat} (hc : c < cs.length) (h1 : ¬ S (hd cs c)) (h2 : S' (hd cs c)) : un cs S' < un cs S := by
  unfold un
  refine filter_lt (fun x _ hx => ?_) ⟨c, List.mem_range.mpr hc, decide_eq_true h1, decide_eq_false (fun z => z h2)⟩
  rw [decide_eq_true_eq] at hx ⊢
  exact fun z => hx (h _ z)
open Classical in
theorem un_le {cs : List Cz} {S : Fc → Prop} : un cs S ≤ cs.length := by
  unfold un
  exact Nat.le_trans (List.length_filter_le _ _) (Nat.le_of_eq List.length_range)
theorem gof_snoc {gs : List (List Fc)} {ns : List Nat} {i n : Nat} {x : List Fc} (hn : ns[i]? = some n) (hx : gs[n]? = some x) (f : Fc) : Gof gs (ns.take i) f ∨ f ∈ x ↔ Gof gs (ns.take (i + 1)) f := by
  rw [take_snoc hn]
  unfold Gof
  constructor
  · rintro (⟨m, hm, g, h1, h2⟩ | h)
    · exact ⟨m, List.mem_append_left _ hm, g, h1, h2⟩
    · exact ⟨n, by simp, x, hx, h⟩
  · rintro ⟨m, hm, g, h1, h2⟩
    rcases List.mem_append.mp hm with h | h
    · exact .inl ⟨m, h, g, h1, h2⟩
    · rw [List.mem_singleton.mp h, hx] at h1
      cases h1
      exact .inr h2
section
variable {P : Program} {w : World} {K : PySem.W.Frag} {mg : Str → Option Value} {base : Heap} {C : Addr}
theorem scRn : FnScope nRn ["parts", "lot", "without"] (defScope sRnd) := ⟨rfl, rfl, rfl, by decide +kernel, rfl, by decide +kernel, by decide +kernel⟩
open Classical in
theorem ok_rnd {f : Addr} {fd : FuncData} {k : Nat} (F : Fun K "_law_rounds" "_law_rounds" sRnd f fd) (T : Tx mg) : FnOk P w K mg base CX0 (k + 1) f fd ["parts", "lot", "without"] spRnd := by
  refine F.ok scRn (fun vs H Q E h => ?_) (fun cdv A outer s H vs Q E hr h => ?_)
  · obtain ⟨p, lt, ca, ga, cs, gs, ns, ex, rfl, _⟩ := h
    rfl
  · obtain ⟨p, lt, ca, ga, cs, gs, ns, ex, rfl, hp, ⟨cas, hca, hcp⟩, ⟨gas, hga, hgp⟩, hG, hlt, hnl, hnb, hex, q⟩ := h
    obtain ⟨vl, hvl⟩ : ∃ vl, vl = rdV cs (Gof gs ns) := ⟨_, rfl⟩
    refine ⟨_, (pss_cons (ps_set (i := 3) scRn.nd rfl (Or.inr rfl) pe_dnewT) (pss_cons (ps_for PassesOwn.never rfl (pi_tup (pv 1)) (pg_name (i := 4) scRn.nd rfl (Or.inl rfl)) (pss_one (ps_for PassesOwn.never rfl (pi_tup (pe_ix ix_tup (pe_ix ix_tup (pv 0) pe_int (fun _ _ => rfl)) (pv 4) (fun _ _ => rfl))) (pg_name (i := 5) scRn.nd rfl (Or.inl rfl)) (pss_one (ps_dput (u1 hr) (pv 3) (pv 5) pe_int rfl))))) (pss_cons (ps_for PassesOwn.never rfl (pi_range1 (by rfl) T.range_ (pa_cons (pe_op op_add (pe_callB call_len_seq (by rfl) T.len_ PySem.boot_len (pa_cons (pe_ix ix_tup (pv 0) pe_int (fun _ _ => rfl)) pa_nil)) pe_int) pa_nil)) (pg_name (i := 6) scRn.nd rfl (Or.inl rfl)) (pss_cons (ps_set (i := 7) scRn.nd rfl (Or.inl rfl) (pe_lst pa_nil)) (pss_cons (ps_for PassesOwn.never rfl (pi_range1 (by rfl) T.range_ (pa_cons (pe_callB call_len_seq (by rfl) T.len_ PySem.boot_len (pa_cons (pe_ix ix_tup (pv 0) pe_int (fun _ _ => rfl)) pa_nil)) pa_nil)) (pg_name (i := 4) scRn.nd rfl (Or.inl rfl)) (pss_cons (ps_asg (pe_ix ix_tup (pe_ix ix_tup (pv 0) pe_int (fun _ _ => rfl)) (pv 4) (fun _ _ => rfl)) (pg_tup rfl (pgs_cons (pg_name (i := 8) scRn.nd rfl (Or.inl rfl)) (pgs_cons (pg_name (i := 9) scRn.nd rfl (Or.inl rfl)) pgs_nil)))) (pss_one (ps_if (pt_and (pt_cmpR op_ne (pv 4) (pv 2) (nomark _)) (pw_and (pt_cmp (pc_dnotin (u1 hr) (pv 9) (pv 3))) (pw_and1 (pt_val (pe_callB (cr_all rfl) (by rfl) T.all_ (by decide +kernel) (pa_cons (pe_lc (own := [("one", 5)]) (g := gName 5) (te := tDIn (tVar 5) (tVar 3)) rfl scRn.nd (pi_tup (pv 8)) (blkOk_by (N := nRn) (sc := defScope sRnd) (by decide +kernel)) (fun _ _ _ _ _ => pg_name (i := 5) scRn.nd rfl (Or.inl rfl)) (fun _ _ _ _ _ => pts_nil) (fun _ _ _ _ _ => (pe_cmp (pc_din (u1 hr) (pv 5) (pv 3)) rfl))) pa_nil)))))) (pss_one (ps_expr (pe_bm PySem.F.plainAttrs_list PySem.F.slot_list_append PySem.F.type_list_append mt_append (pv 7) (pa_cons (pv 9) pa_nil)))) pss_nil)))) (pss_cons (ps_if (pt_cmpR (op_eqD hr.units) (pv 7) (pe_lst pa_nil) (nomark _)) (pss_one ps_break) pss_nil) (pss_one (ps_for PassesOwn.never rfl (pi_list (pv 7)) (pg_name (i := 5) scRn.nd rfl (Or.inl rfl)) (pss_one (ps_dput (u1 hr) (pv 3) (pv 5) (pe_op op_add (pv 6) pe_int) rfl)))))))) (pss_one (ps_ret (pv 3)))))), ?_⟩
    intro d nd
    have s1 := same_upd (o := HO.dT []) nd
    have lns : (nI ns).length = ns.length := by unfold nI; simp
    have lca := Paired.len hcp
    have hnc := hG.nc
    refine ⟨_, rfl, lt, rfl, ⟨_, .of (s1 _ _ hlt)⟩, ?_⟩
    refine for_it (walk_tup (xs := nI ns)) (fun i σ G => ∃ y4 y5, σ = [some (.ref p), some (.ref lt), some (exV ex), some (.ref d), y4, y5, none, none, none, none] ∧ Same H G ∧ FM G d vl (Gof gs (ns.take i)) (1000 * i)) ⟨_, _, rfl, s1, [], upd_same, Nat.zero_le _, List.nodup_nil, fun f => ⟨(fun h => nomatch h), (fun h => by obtain ⟨n, hn, _⟩ := h; simp at hn)⟩, fun f h => by obtain ⟨n, hn, _⟩ := h; simp at hn⟩ (fun i σ G _ h => ?_) ?_ ?_
    · obtain ⟨_, _, rfl, h, _⟩ := h
      exact .of (h _ _ hlt)
    · rintro i v σ G G' hi ⟨y4, y5, rfl, sm, hF⟩ ⟨rfl, hv⟩
      obtain ⟨n, hn, rfl⟩ := nI_at hv
      have hng := hnb n (List.mem_of_getElem? hn)
      obtain ⟨x, hx⟩ : ∃ x, gs[n]? = some x := ⟨_, List.getElem?_eq_getElem hng⟩
      obtain ⟨pg, hpg, bs, hb1, hb2⟩ := Paired.at hgp hx
      have lx := hG.nf x (List.mem_of_getElem? hx)
      have lb := Paired.len hb2
      refine ⟨_, rfl, p, _, _, .ref ga, rfl, rfl, .of (sm _ _ hp), atI_nat (j := 1) rfl, _, rfl, ga, _, _, .ref pg, rfl, rfl, .of (sm _ _ hga), atI_nat (j := n) (by rw [List.getElem?_map, hpg]; rfl), pg, rfl, ⟨_, .of (sm _ _ hb1)⟩, ?_⟩
      refine for_it (walk_tup (xs := bs.map V.ref)) (fun j σ G => ∃ y5, σ = [some (.ref p), some (.ref lt), some (exV ex), some (.ref d), some (.int (n : Nat)), y5, none, none, none, none] ∧ Same H G ∧ FM G d vl (fun f => Gof gs (ns.take i) f ∨ f ∈ x.take j) (1000 * i + j)) ⟨_, rfl, sm, hF.ext (fun f => by simp) (Nat.le_refl _)⟩ (fun j σ G _ h => ?_) ?_ ?_
      · obtain ⟨_, rfl, h, _⟩ := h
        exact .of (h _ _ hb1)
      · rintro j v2 σ G G' hj ⟨y5, rfl, sm, hF⟩ ⟨rfl, hv2⟩
        obtain ⟨q1, hq1, rfl⟩ := ref_at hv2
        obtain ⟨f1, hf1, hff⟩ := Paired.at' hb2 hq1
        rw [List.length_map] at hj
        have hv0 : V.int 0 = vl f1 := by
          rw [hvl]
          exact (rdV_at (t := 0) (show Rd1 cs (Gof gs ns) f1 0 from ⟨show Gof gs ns f1 from ⟨n, List.mem_of_getElem? hn, x, hx, List.mem_of_getElem? hf1⟩, fun s hs => absurd hs (Nat.not_lt_zero _)⟩)).symm
        obtain ⟨kvs, hput, hF2, tk⟩ := hF.put (Nat.lt_of_le_of_lt (show 1000 * i + j ≤ 100000 by omega) (by decide)) (hff.tk (.same sm)) hv0
        refine ⟨_, rfl, _, rfl, d, _, rfl, hput, ⟨_, rfl, same_put sm nd, hF2.ext (fun f => ?_) (Nat.le_refl _)⟩⟩
        rw [take_snoc hf1, List.mem_append, List.mem_singleton, or_assoc]
      · rintro σ G ⟨y5, rfl, sm, hF⟩
        refine ⟨_, _, rfl, sm, hF.ext (fun f => ?_) (by rw [List.length_map, lb]; omega)⟩
        rw [List.length_map, lb, List.take_length]
        exact gof_snoc hn hx f
    · rintro σ G ⟨y4, y5, rfl, sm, hF⟩
      rw [lns, List.take_length] at hF
      refine ⟨_, rfl, p, _, _, .ref ca, rfl, rfl, .of (sm _ _ hp), atI_nat (j := 0) rfl, ca, _, rfl, .inr (.of (sm _ _ hca)), _, _, rfl, rfl, ?_⟩
      rw [List.length_map, lca]
      refine ⟨_, rfl, by omega, by omega, ?_⟩
      have e1 : ((cs.length : Nat) + 1 : Int).toNat = cs.length + 1 := by omega
      rw [e1]
      refine for_it (walk_range (lo := 0)) (fun i σ G => ∃ (y4 y5 y6 y7 y8 y9 : Option V) (S : Fc → Prop), σ = [some (.ref p), some (.ref lt), some (exV ex), some (.ref d), y4, y5, y6, y7, y8, y9] ∧ Same H G ∧ FM G d vl S (60000 + 1000 * i) ∧ (∀ f, Gof gs ns f → S f) ∧ (∀ f, S f → Der cs (Gof gs ns) ex f) ∧ i + un cs S ≤ cs.length ∧ ∀ f, S f ↔ Lev cs (Gof gs ns) i f)
        ⟨_, _, _, _, _, _, Gof gs ns, rfl, sm, hF.ext (fun _ => Iff.rfl) (by omega), fun _ h => h, fun _ h => .gr h, by have := un_le (cs := cs) (S := Gof gs ns); omega, fun _ => Iff.rfl⟩ (fun i σ G _ _ => trivial) ?_ ?_
      · rintro i y σ G G' hi ⟨y4, y5, y6, y7, y8, y9, S, rfl, sm, hF, hGS, hSD, hun, hLv⟩ ⟨rfl, rfl⟩
        refine ⟨by decide, fun fr nfr => ?_⟩
        have sf := same_upd (o := HO.lst []) nfr
        have nfrH : H fr = none := sm.free nfr
        have nfd : fr ≠ d := fun e => by
          obtain ⟨_, h, _⟩ := hF
          rw [e, h] at nfr; cases nfr
        refine ⟨_, rfl, p, _, _, .ref ca, rfl, rfl, .of ((sm.trans sf) _ _ hp), atI_nat (j := 0) rfl, ca, _, rfl, .inr (.of ((sm.trans sf) _ _ hca)), ?_⟩
        rw [List.length_map, lca]
        refine ⟨_, rfl, by omega, by omega, ?_⟩
        rw [Int.toNat_natCast]
        refine for_it (walk_range (lo := 0)) (fun j σ G => ∃ (y4 y5 y8 y9 : Option V) (as : List Addr) (fs : List Fc), σ = [some (.ref p), some (.ref lt), some (exV ex), some (.ref d), y4, y5, some (.int (0 + (i : Nat))), some (.ref fr), y8, y9] ∧ Same H G ∧ FM G d vl S (60000 + 1000 * i) ∧ G fr = some (.lst (as.map .ref)) ∧ Paired (FactAt G) as fs ∧ (∀ f ∈ fs, GF f ∧ Der cs (Gof gs ns) ex f ∧ ¬ S f ∧ ∃ c, c < cs.length ∧ hd cs c = f ∧ ∀ y ∈ bo cs c, S y) ∧ fs.length ≤ j ∧ ∀ c, c < j → ex ≠ some c → (∀ y ∈ bo cs c, S y) → S (hd cs c) ∨ hd cs c ∈ fs)
          ⟨_, _, _, _, [], [], rfl, sm.trans sf, hF.same sf, upd_same, .nil, by simp, Nat.le_refl _, fun c hc => absurd hc (Nat.not_lt_zero _)⟩ (fun j σ G _ _ => trivial) ?_ ?_
        · rintro j y2 σ G G' hj ⟨y4, y5, y8, y9, as, fs, rfl, sm, hF, hfr, hfp, hfs, hfl, hcl⟩ ⟨rfl, rfl⟩
          obtain ⟨pc, hpc1, pb, ph, hpc2, ⟨bs, hbs, hbp⟩, hph⟩ := Paired.at hcp (bo_at hj)
          refine ⟨_, rfl, p, _, _, .ref ca, rfl, rfl, .of (sm _ _ hp), atI_nat (j := 0) rfl, _, rfl, ca, _, _, .ref pc, rfl, rfl, .of (sm _ _ hca), ?_, pc, _, rfl, .of (sm _ _ hpc2), rfl, _, _, rfl, _, _, rfl, rfl, ?_⟩
          · rw [Int.zero_add]; exact atI_nat (by rw [List.getElem?_map, hpc1]; rfl)
          have lb := Paired.len hbp
          refine ⟨_, rfl, _, rfl, ?_, _, rfl, ?_⟩
          · cases ex <;> rfl
          have hdec : decide (V.int (0 + ((j : Nat) : Int)) = exV ex) = decide (ex = some j) := by
            rw [Int.zero_add]
            cases ex with
            | none => rfl
            | some k =>
              by_cases e : k = j
              · subst e; rw [decide_eq_true rfl]; exact decide_eq_true rfl
              · rw [decide_eq_false (fun z => e (Option.some.inj z))]
                exact decide_eq_false (fun z => e (by have : ((j : Nat) : Int) = (k : Nat) := V.int.inj z; omega))
          dsimp only
          rw [hdec]
          have keepI : ∀ {G5 : Hp} {y5 : Option V}, Same G' G5 → (ex ≠ some j → (∀ y ∈ bo cs j, S y) → S (hd cs j) ∨ hd cs j ∈ fs) → ∃ (y4 y5' y8 y9 : Option V) (as : List Addr) (fs : List Fc), [some (V.ref p), some (.ref lt), some (exV ex), some (.ref d), some (.int (0 + ((j : Nat) : Int))), y5, some (.int (0 + (i : Nat))), some (.ref fr), some (.ref pb), some (.ref ph)] = [some (.ref p), some (.ref lt), some (exV ex), some (.ref d), y4, y5', some (.int (0 + (i : Nat))), some (.ref fr), y8, y9] ∧ Same H G5 ∧ FM G5 d vl S (60000 + 1000 * i) ∧ G5 fr = some (.lst (as.map .ref)) ∧ Paired (FactAt G5) as fs ∧ (∀ f ∈ fs, GF f ∧ Der cs (Gof gs ns) ex f ∧ ¬ S f ∧ ∃ c, c < cs.length ∧ hd cs c = f ∧ ∀ y ∈ bo cs c, S y) ∧ fs.length ≤ j + 1 ∧ ∀ c, c < j + 1 → ex ≠ some c → (∀ y ∈ bo cs c, S y) → S (hd cs c) ∨ hd cs c ∈ fs := fun s5 hj5 =>
            ⟨_, _, _, _, as, fs, rfl, sm.trans s5, hF.same s5, s5 _ _ hfr, Paired.mapP hfp fun _ _ z => z.tk (.same s5), hfs, by omega, fun c hc h1 h2 => by
              by_cases e : c = j
              · rw [e] at h1 h2 ⊢; exact hj5 h1 h2
              · exact hcl c (by omega) h1 h2⟩
          by_cases he : ex = some j
          · rw [decide_eq_true he]
            exact iteF (iteF (keepI (Same.refl _) fun z => absurd he z))
          rw [decide_eq_false he]
          refine iteT ?_
          obtain ⟨o1, hget1, ho1, _⟩ := hF.get (FactAt.tk hph (.same sm))
          refine ⟨_, rfl, _, rfl, d, _, rfl, hget1, _, rfl, ?_⟩
          rw [ho1]
          by_cases hS : S (hd cs j)
          · rw [decide_eq_true hS]
            exact iteF (iteF (keepI (Same.refl _) fun _ _ => .inl hS))
          rw [decide_eq_false hS]
          refine iteT ?_
          have lbb : (bs.map V.ref).length = (bo cs j).length := by rw [List.length_map, lb]
          have lb4 : (bo cs j).length ≤ 4 := (hG.cl _ (List.mem_of_getElem? (bo_at hj))).1
          refine ⟨_, rfl, pb, rfl, ⟨_, .of (sm _ _ hbs)⟩, fun Da nDa => ?_⟩
          refine lcP walk_tup (fun m => V.bl (decide (S ((bo cs j).getD m [])))) (by rw [lbb]; exact Nat.lt_of_le_of_lt lb4 (by decide)) nDa (fun _ sm' => .of (sm' _ _ (sm _ _ hbs))) ?_ ?_
          · rintro m y3 H5 H6 Q' hm sm5 ⟨rfl, hy⟩ hq
            obtain ⟨q1, hq1, rfl⟩ := ref_at hy
            obtain ⟨f1, hf1, hff⟩ := Paired.at' hbp hq1
            have e3 : (bo cs j).getD m [] = f1 := by rw [List.getD_eq_getElem?_getD, hf1]; rfl
            rw [e3] at hq
            obtain ⟨o2, hget2, ho2, _⟩ := (hF.same sm5).get (hff.tk (.same (sm.trans sm5)))
            refine ⟨rfl, _, rfl, _, rfl, d, _, rfl, hget2, ?_⟩
            rw [ho2]
            exact hq _ (Same.refl _)
          · intro H5 sm5 hd5
            refine ⟨Da, (List.range (bs.map V.ref).length).map fun m => decide (S ((bo cs j).getD m [])), rfl, .inl (.inl (by rw [hd5, List.map_map]; rfl)), ?_⟩
            rw [all_getD lbb (p := fun f => decide (S f))]
            by_cases hall : ((bo cs j).all fun f => decide (S f)) = true
            · rw [hall]
              refine ⟨_, rfl, iteT ?_⟩
              have hb : ∀ y ∈ bo cs j, S y := fun y hy => of_decide_eq_true (List.all_eq_true.mp hall y hy)
              have h5 := sm5 _ _ hfr
              have la := Paired.len hfp
              have tkA : TK G' (upd H5 fr (.lst (as.map V.ref ++ [.ref ph]))) := TK.trans (.same sm5) (TK.upd h5 (fun xs e => nomatch e))
              refine ⟨_, rfl, .inl ⟨rfl, _, SqL.of h5⟩, _, rfl, fr, _, _, rfl, rfl, h5, by rw [List.length_map]; exact Nat.lt_of_le_of_lt (show as.length ≤ 1000 by omega) (by decide), ?_⟩
              refine ⟨_, _, _, _, as ++ [ph], fs ++ [hd cs j], rfl, same_put (sm.trans sm5) nfrH, ?_, by rw [upd_same, List.map_append]; rfl, Paired.snoc (Paired.mapP hfp fun _ _ z => z.tk tkA) (FactAt.tk hph (.trans (.same sm) tkA)), fun f hf => ?_, by rw [List.length_append, List.length_singleton]; omega, fun c hc h1 h2 => ?_⟩
              · obtain ⟨kvs, k1, k2⟩ := hF
                exact ⟨kvs, by rw [upd_ne (Ne.symm nfd)]; exact sm5 _ _ k1, k2⟩
              · rcases List.mem_append.mp hf with h | h
                · exact hfs f h
                · rw [List.mem_singleton.mp h]
                  exact ⟨(hG.cl _ (List.mem_of_getElem? (bo_at hj))).2.2, .cl (bo_at hj) he fun y hy => hSD y (hb y hy), hS, j, hj, rfl, hb⟩
              · by_cases e : c = j
                · rw [e]; exact .inr (by simp)
                · rcases hcl c (by omega) h1 h2 with h | h
                  · exact .inl h
                  · exact .inr (List.mem_append_left _ h)
            · rw [Bool.not_eq_true] at hall
              rw [hall]
              refine ⟨_, rfl, iteF (keepI sm5 fun _ h2 => ?_)⟩
              rw [List.all_eq_true.mpr fun y hy => decide_eq_true (h2 y hy)] at hall
              cases hall
        · rintro σ G ⟨y4, y5, y8, y9, as, fs, rfl, sm, hF, hfr, hfp, hfs, hfl, hcl⟩
          have la := Paired.len hfp
          refine ⟨_, rfl, by decide, fun e0 ne0 => ?_⟩
          have s0 := same_upd (o := HO.lst []) ne0
          refine ⟨.list (fs.map dF), .list [], .lst (.of (s0 _ _ hfr)) (dpFs (Paired.mapP hfp fun _ _ z => z.tk (.same s0))), .lst (.of upd_same) .nil, shaped_dFs fun f hf => (hfs f hf).1, by decide +kernel, _, rfl, ?_⟩
          cases fs with
          | nil =>
            have ee : PyData.eqv (.list (([] : List Fc).map dF)) (.list []) = true := by decide +kernel
            rw [ee]
            refine iteT ?_
            subst hvl
            refine ⟨_, rfl, q _ d (sm.trans s0) ((hF.same s0).ext (fun f => ⟨fun z => by rw [← hex]; exact hSD f z, fun dd => ?_⟩) (by omega))⟩
            rw [← hex] at dd
            refine dd.closed hGS fun c b hh hc hx hb => ?_
            have li := (List.getElem?_eq_some_iff.mp hc).1
            have e2 := bo_at li
            rw [hc] at e2
            cases e2
            exact (hcl c li hx hb).resolve_right (by simp)
          | cons f0 fs0 =>
            have ee : PyData.eqv (.list ((f0 :: fs0).map dF)) (.list []) = false := by simp [PyData.eqv, PyData.eqvAll]
            rw [ee]
            refine iteF ?_
            refine ⟨_, rfl, fr, rfl, ⟨_, SqL.of (s0 _ _ hfr)⟩, ?_⟩
            refine for_it (walk_list (xs := as.map V.ref)) (fun j σ G => ∃ (y4 y5 y8 y9 : Option V), σ = [some (.ref p), some (.ref lt), some (exV ex), some (.ref d), y4, y5, some (.int (0 + (i : Nat))), some (.ref fr), y8, y9] ∧ Same H G ∧ G fr = some (.lst (as.map .ref)) ∧ Paired (FactAt G) as (f0 :: fs0) ∧ FM G d vl (fun f => S f ∨ f ∈ (f0 :: fs0).take j) (60000 + 1000 * i + j))
              ⟨_, _, _, _, rfl, sm.trans s0, s0 _ _ hfr, Paired.mapP hfp fun _ _ z => z.tk (.same s0), (hF.same s0).ext (fun f => by simp) (Nat.le_refl _)⟩ (fun j σ G _ h => ?_) ?_ ?_
            · obtain ⟨_, _, _, _, rfl, _, h, _⟩ := h
              exact SqL.of h
            · rintro j v σ G G' hj ⟨y4, y5, y8, y9, rfl, sm, hfr, hfp, hF⟩ ⟨rfl, hv⟩
              obtain ⟨q1, hq1, rfl⟩ := ref_at hv
              obtain ⟨f1, hf1, hff⟩ := Paired.at' hfp hq1
              rw [List.length_map] at hj
              obtain ⟨kvs, hput, hF2, tk⟩ := hF.put (v := .int (0 + (i : Nat) + 1)) (Nat.lt_of_le_of_lt (show 60000 + 1000 * i + j ≤ 2000000 by omega) (by decide)) hff (by
                obtain ⟨_, _, z3, c, z4, z5, z6⟩ := hfs f1 (List.mem_of_getElem? hf1)
                rw [hvl, rdV_at (t := i + 1) ⟨.inr ⟨c, z4, z5, fun y hy => (hLv y).mp (z6 y hy)⟩, fun s hs hl => z3 ((hLv f1).mpr (hl.up (by omega)))⟩]
                congr 1
                omega)
              refine ⟨_, rfl, _, _, rfl, rfl, _, rfl, _, rfl, d, _, rfl, hput, ⟨_, _, _, _, rfl, same_put sm nd, by rw [upd_ne nfd]; exact hfr, Paired.mapP hfp fun _ _ z => z.tk tk, hF2.ext (fun f => ?_) (by omega)⟩⟩
              rw [take_snoc hf1, List.mem_append, List.mem_singleton, or_assoc]
            · rintro σ G ⟨y4, y5, y8, y9, rfl, sm, hfr, hfp, hF⟩
              have lfs : (as.map V.ref).length = (f0 :: fs0).length := by rw [List.length_map, la]
              rw [lfs, List.take_length] at hF
              obtain ⟨g1, g2, g3, c, hc, ec, _⟩ := hfs f0 (by simp)
              refine ⟨_, _, _, _, _, _, fun f => S f ∨ f ∈ f0 :: fs0, rfl, sm, hF.ext (fun _ => Iff.rfl) (by omega), fun f h => .inl (hGS f h), fun f h => ?_, ?_, fun f => ⟨fun h => ?_, fun h => ?_⟩⟩
              · rcases h with h | h
                · exact hSD f h
                · exact (hfs f h).2.1
              · have := un_lt (S' := fun f => S f ∨ f ∈ f0 :: fs0) (fun f h => .inl h) hc (by rw [ec]; exact g3) (by rw [ec]; exact .inr (by simp))
                omega
              · rcases h with h | h
                · exact .inl ((hLv f).mp h)
                · obtain ⟨_, _, _, c2, z4, z5, z6⟩ := hfs f h
                  exact .inr ⟨c2, z4, z5, fun y hy => (hLv y).mp (z6 y hy)⟩
              · rcases h with h | ⟨c2, z4, z5, z6⟩
                · exact .inl ((hLv f).mpr h)
                · rw [← z5]
                  exact hcl c2 z4 (by rw [hex]; simp) fun y hy => (hLv y).mpr (z6 y hy)
      · rintro σ G ⟨y4, y5, y6, y7, y8, y9, S, rfl, sm, hF, hGS, hSD, hun, hLv⟩
        omega
end
end L2.My
end
section
set_option Elab.async false
set_option linter.all false
set_option maxRecDepth 100000
set_option maxHeartbeats 4000000
namespace L2.My
open PySem PySem.Spec PyProof.Rows
abbrev sMix : Stmt := top 36
abbrev sFacs : Stmt := top 47
def spMix : Sp := fun vs H Q _ => ∃ (b g it : Addr) (xs : List V), vs = [.ref b, .ref it] ∧ HandAt H b g ∧ H it = some (.tup xs) ∧ xs.length ≤ 1000 ∧ ∀ H' l ys, BL [b] H H' → HandAt H' b g → H' l = some (.lst ys) → ys.Perm xs → Q (.ref l) H'
def spFacs : Sp := fun vs H Q _ => ∃ (p ca ga : Addr) (cs : List Cz) (gs : List (List Fc)) (Dp : List Fc), vs = [.ref p] ∧ H p = some (.tup [.ref ca, .ref ga]) ∧ ClsAt H ca cs ∧ GrsAt H ga gs ∧ GR cs gs ∧ PF Dp cs gs ∧ ∀ H' l as fs, Same H H' → H' l = some (.lst (as.map .ref)) → Paired (FactAt H') as fs → (∀ f ∈ fs, GF f) → fs.length ≤ 64 → Q (.ref l) H'
theorem u64 {k : Nat} {A : Around} (h : Room k A) : A.units + 64 < cLine := by have := h.un; omega
theorem pick_perm {α : Type} : ∀ (l : List α) (n : Nat) (h : n < l.length), (l[n] :: l.eraseIdx n).Perm l
  | x :: l, 0, _ => .refl _
  | x :: l, n + 1, h => by
    have h' : n < l.length := by simpa using h
    show (l[n] :: x :: l.eraseIdx n).Perm (x :: l)
    exact (List.Perm.swap _ _ _).trans ((pick_perm l n h').cons x)
theorem gfs_mem {gs : List (List Fc)} {ns : List Nat} {f : Fc} : f ∈ gfs gs ns ↔ Gof gs ns f := by
  unfold gfs Gof
  rw [List.mem_flatMap]
  constructor
  · rintro ⟨n, hn, h⟩
    cases e : gs[n]? with
    | none => rw [e] at h; cases h
    | some g => rw [e] at h; exact ⟨n, hn, g, e, h⟩
  · rintro ⟨n, hn, g, e, h⟩
    exact ⟨n, hn, by rw [e]; exact h⟩
section
variable {P : Program} {w : World} {K : PySem.W.Frag} {mg : Str → Option Value} {base : Heap} {C : Addr}
theorem scMix : FnScope ["hand", "items", "left", "found", "turn"] ["hand", "items"] (defScope sMix) := ⟨rfl, rfl, rfl, by decide +kernel, rfl, by decide +kernel, by decide +kernel⟩
theorem ok_mix {f : Addr} {fd : FuncData} {k : Nat} (F : Fun K "_law_mixed" "_law_mixed" sMix f fd) (T : Tx mg) (cD : Cal P w K mg base (k + 1) "_law_draw" ["hand", "many"] spDraw) : FnOk P w K mg base CX0 (k + 2) f fd ["hand", "items"] spMix := by
  refine F.ok scMix (fun vs H Q E h => ?_) (fun cdv A outer s H vs Q E hr h => ?_)
  · obtain ⟨b, g, it, xs, rfl, _⟩ := h
    rfl
  · obtain ⟨b, g, it, xs, rfl, hB, hit, hl, q⟩ := h
    refine ⟨_, (pss_cons (ps_par (i := 2) (j := 3) rfl scMix.nd rfl rfl (by decide) rfl rfl (pa_cons (pe_callTy call_list_of (by rfl) T.list_ (by decide +kernel) (pa_cons (pv 1) pa_nil)) (pa_cons (pe_lst pa_nil) pa_nil)) rfl) (pss_cons (ps_for PassesOwn.never rfl (pi_range1 (by rfl) T.range_ (pa_cons (pe_callB call_len_seq (by rfl) T.len_ PySem.boot_len (pa_cons (pv 2) pa_nil)) pa_nil)) (pg_name (i := 4) scMix.nd rfl (Or.inl rfl)) (pss_one (ps_expr (pe_bm PySem.F.plainAttrs_list PySem.F.slot_list_append PySem.F.type_list_append mt_append (pv 3) (pa_cons (pe_bm PySem.F.plainAttrs_list PySem.F.slot_list_pop PySem.F.type_list_pop mt_popAt (pv 2) (pa_cons (pe_c cD hr (by omega) (by rfl) (pa_cons (pv 0) (pa_cons (pe_callB call_len_seq (by rfl) T.len_ PySem.boot_len (pa_cons (pv 2) pa_nil)) pa_nil))) pa_nil)) pa_nil))))) (pss_one (ps_ret (pv 3))))), ?_⟩
    refine ⟨_, rfl, it, xs, rfl, .inr (.of hit), fun lf nlf => ⟨by decide, fun fn nfn => ⟨_, _, rfl, ?_⟩⟩⟩
    have s1 := same_upd (o := HO.lst xs) nlf
    have s2 := same_upd (o := HO.lst []) nfn
    have s12 := s1.trans s2
    have hlf : (upd (upd H lf (.lst xs)) fn (.lst [])) lf = some (.lst xs) := s2 _ _ upd_same
    have hfn : (upd (upd H lf (.lst xs)) fn (.lst [])) fn = some (.lst []) := upd_same
    have nfnH : H fn = none := s1.free nfn
    have nfl : fn ≠ lf := fun e => by rw [e, upd_same] at nfn; cases nfn
    have hB2 := hB.same s12
    have nlb := hB.nb nlf
    have nlg := hB.ng nlf
    have nfb := hB.nb nfnH
    have nfg := hB.ng nfnH
    generalize hH2 : upd (upd H lf (.lst xs)) fn (.lst []) = H2 at *
    refine ⟨_, rfl, lf, _, rfl, .inl (SqL.of hlf), _, rfl, by omega, by omega, ?_⟩
    rw [Int.toNat_natCast]
    refine for_it (walk_range (lo := 0)) (fun i σ G => ∃ y4, σ = [some (.ref b), some (.ref it), some (.ref lf), some (.ref fn), y4] ∧ BL [b] H G ∧ HandAt G b g ∧ ∃ ls fs, G lf = some (.lst ls) ∧ G fn = some (.lst fs) ∧ (fs ++ ls).Perm xs ∧ ls.length + i = xs.length) ⟨_, rfl, .same s12, hB2, xs, [], hlf, hfn, .refl _, rfl⟩ (fun i σ G _ _ => trivial) ?_ ?_
    · rintro i y σ G G' hi ⟨y4, rfl, bl, hBg, ls, fs, h1, h2, h3, h4⟩ ⟨rfl, rfl⟩
      have lfs : fs.length + ls.length = xs.length := by rw [← h3.length_eq, List.length_append]
      refine ⟨_, rfl, .inl ⟨rfl, _, SqL.of h2⟩, _, rfl, .inl ⟨rfl, _, SqL.of h1⟩, _, rfl, _, rfl, lf, _, rfl, .inl (SqL.of h1), b, g, _, rfl, hBg, by omega, by omega, fun H3 r bl3 hB3 hr0 hr1 => ?_⟩
      have h13 := bl3 _ _ (by simpa using nlb) h1
      have h23 := bl3 _ _ (by simpa using nfb) h2
      obtain ⟨n, rfl⟩ : ∃ n : Nat, r = n := ⟨r.toNat, by omega⟩
      have hn : n < ls.length := by omega
      refine ⟨lf, ls, _, n, ls[n], rfl, rfl, h13, by omega, by omega, ?_, List.getElem?_eq_getElem hn, ?_⟩
      · have z := seqIndex_of (k := ((n : Nat) : Int)) (n := ls.length) (by omega) (by omega)
        rw [z]; rfl
      · have t3 : (upd H3 lf (.lst (ls.eraseIdx n))) fn = some (.lst fs) := by rw [upd_ne nfl]; exact h23
        refine ⟨fn, _, _, rfl, rfl, t3, Nat.lt_of_le_of_lt (show fs.length ≤ 1000 by omega) (by decide), ?_⟩
        refine ⟨_, rfl, BL.put (BL.put (bl.trans bl3) nlf) nfnH, (hB3.put nlb nlg).put nfb nfg, ls.eraseIdx n, fs ++ [ls[n]], ?_, upd_same, ?_, ?_⟩
        · rw [upd_ne (Ne.symm nfl)]; exact upd_same
        · refine List.Perm.trans ?_ h3
          rw [List.append_assoc]
          exact (pick_perm ls n hn).append_left fs
        · rw [List.length_eraseIdx_of_lt hn]; omega
    · rintro σ G ⟨y4, rfl, bl, hBg, ls, fs, h1, h2, h3, h4⟩
      have e0 : ls = [] := List.length_eq_zero_iff.mp (by omega)
      rw [e0, List.append_nil] at h3
      exact ⟨_, rfl, q G fn fs bl hBg h2 h3⟩
theorem scFa : FnScope ["parts", "found", "body", "head"] ["parts"] (defScope sFacs) := ⟨rfl, rfl, rfl, by decide +kernel, rfl, by decide +kernel, by decide +kernel⟩
theorem ok_facs {f : Addr} {fd : FuncData} {k : Nat} (F : Fun K "_law_facts" "_law_facts" sFacs f fd) (T : Tx mg) (cG : Cal P w K mg base (k + 1) "_law_ground_facts" ["parts", "lot"] spGf) : FnOk P w K mg base CX0 (k + 2) f fd ["parts"] spFacs := by
  refine F.ok scFa (fun vs H Q E h => ?_) (fun cdv A outer s H vs Q E hr h => ?_)
  · obtain ⟨p, ca, ga, cs, gs, Dp, rfl, _⟩ := h
    rfl
  · obtain ⟨p, ca, ga, cs, gs, Dp, rfl, hp, ⟨cas, hca, hcp⟩, ⟨gas, hga, hgp⟩, hG, hD, q⟩ := h
    refine ⟨_, (pss_cons (ps_set (i := 1) scFa.nd rfl (Or.inl rfl) (pe_c cG hr (by omega) (by rfl) (pa_cons (pv 0) (pa_cons (pe_listRg rfl (by rfl) T.list_ (prg_1 (by rfl) T.range_ (pe_callB call_len_seq (by rfl) T.len_ PySem.boot_len (pa_cons (pe_ix ix_tup (pv 0) pe_int (fun _ _ => rfl)) pa_nil)))) pa_nil)))) (pss_cons (ps_for PassesOwn.never rfl (pi_tup (pe_ix ix_tup (pv 0) pe_int (fun _ _ => rfl))) (pg_tup rfl (pgs_cons (pg_name (i := 2) scFa.nd rfl (Or.inl rfl)) (pgs_cons (pg_name (i := 3) scFa.nd rfl (Or.inl rfl)) pgs_nil))) (pss_one (ps_set (i := 1) scFa.nd rfl (Or.inl rfl) (pe_op op_cat (pe_op op_cat (pv 1) (pe_callTy call_list_of (by rfl) T.list_ (by decide +kernel) (pa_cons (pv 2) pa_nil))) (pe_lst (pa_cons (pv 3) pa_nil)))))) (pss_one (ps_ret (pe_callB (cr_sortSF rfl) (by rfl) T.sorted_ (by decide +kernel) (pa_cons (pe_callTy (cr_setF rfl (u64 hr)) (by rfl) T.set_ (by decide +kernel) (pa_cons (pv 1) pa_nil)) pa_nil)))))), ?_⟩
    have lg := Paired.len hgp
    have lc := Paired.len hcp
    have hng := hG.ng
    refine ⟨_, rfl, _, rfl, p, _, _, .ref ga, rfl, rfl, .of hp, atI_nat (j := 1) rfl, ga, _, rfl, .inr (.of hga), ?_⟩
    rw [List.length_map, lg]
    refine ⟨_, rfl, RgOk.of_le (by decide) (by omega) (by decide) (by omega), fun l nl => ?_⟩
    rw [rgV_nI]
    have s2 := same_upd (o := HO.lst (nI (List.range gs.length))) nl
    refine ⟨p, l, ca, ga, gs, List.range gs.length, rfl, s2 _ _ hp, ⟨gas, s2 _ _ hga, Paired.mapP hgp fun _ _ z => z.tk (.same s2)⟩, fun x hx => ⟨hG.nf x hx, hG.gr x hx⟩, upd_same, fun n hn => List.mem_range.mp hn, by rw [List.length_range]; exact hng, fun H3 l2 as fs s3 hl2 hp2 hg2 hlen hfs => ?_⟩
    have sm3 := s2.trans s3
    have inD : ∀ f ∈ fs, f ∈ Dp := fun f hf => by
      rw [hfs, gfs_mem] at hf
      obtain ⟨n, _, g, hg, hx⟩ := hf
      exact hD.gr g (List.mem_of_getElem? hg) f hx
    refine ⟨_, rfl, p, _, _, .ref ca, rfl, rfl, .of (sm3 _ _ hp), atI_nat (j := 0) rfl, ca, rfl, ⟨_, .of (sm3 _ _ hca)⟩, ?_⟩
    refine for_it (walk_tup (xs := cas.map V.ref)) (fun i σ G => ∃ (y2 y3 : Option V) (l : Addr) (as : List Addr) (fs : List Fc), σ = [some (.ref p), some (.ref l), y2, y3] ∧ Same H G ∧ G l = some (.lst (as.map .ref)) ∧ Paired (FactAt G) as fs ∧ (∀ f ∈ fs, GF f ∧ f ∈ Dp) ∧ fs.length ≤ 60000 + 10 * i) ⟨_, _, l2, as, fs, rfl, sm3, hl2, hp2, fun f hf => ⟨hg2 f hf, inD f hf⟩, by omega⟩ (fun i σ G _ h => ?_) ?_ ?_
    · obtain ⟨_, _, _, _, _, rfl, h, _⟩ := h
      exact .of (h _ _ hca)
    · rintro i v σ G G' hi ⟨y2, y3, l, as, fs, rfl, sm, h1, h2, h3, h4⟩ ⟨rfl, hv⟩
      obtain ⟨pc, hpc, rfl⟩ := ref_at hv
      obtain ⟨c0, hc0, pb, ph, hpc2, ⟨bs, hbs, hbp⟩, hph⟩ := Paired.at' hcp hpc
      have mc := List.mem_of_getElem? hc0
      have gc := hG.cl c0 mc
      have dc := hD.cl c0 mc
      have lb := Paired.len hbp
      have la := Paired.len h2
      have g4 := gc.1
      rw [List.length_map, lc] at hi
      have hnc := hD.nc
      refine ⟨pc, _, rfl, .of (sm _ _ hpc2), rfl, _, _, rfl, _, _, rfl, rfl, ?_⟩
      refine ⟨_, rfl, _, rfl, pb, _, rfl, .inr (.of (sm _ _ hbs)), fun d nd => ?_⟩
      have t1 := same_upd (o := HO.lst (bs.map V.ref)) nd
      refine ⟨l, d, _, _, rfl, rfl, t1 _ _ h1, upd_same, ?_, fun e ne => ?_⟩
      · rw [List.length_map, List.length_map]
        exact Nat.le_trans (show as.length + bs.length ≤ 100000 by omega) (by decide)
      have t2 := same_upd (o := HO.lst (as.map V.ref ++ bs.map V.ref)) ne
      refine ⟨_, rfl, by show 1 ≤ sizeLine; decide, fun e2 ne2 => ?_⟩
      have t3 := same_upd (o := HO.lst [.ref ph]) ne2
      refine ⟨e, e2, _, _, rfl, rfl, t3 _ _ upd_same, upd_same, ?_, fun e3 ne3 => ?_⟩
      · simp only [List.length_append, List.length_map, List.length_cons, List.length_nil]
        exact Nat.le_trans (show as.length + bs.length + 1 ≤ 100001 by omega) (by decide)
      have t4 := same_upd (o := HO.lst (as.map V.ref ++ bs.map V.ref ++ [.ref ph])) ne3
      have st := t1.trans (t2.trans (t3.trans t4))
      refine ⟨_, _, e3, as ++ bs ++ [ph], fs ++ c0.1 ++ [c0.2], rfl, sm.trans st, by rw [upd_same]; simp, ?_, fun f hf => ?_, ?_⟩
      · exact Paired.snoc (paired_app (Paired.mapP h2 fun _ _ z => st _ _ z) (Paired.mapP hbp fun _ _ z => st _ _ (sm _ _ z))) (st _ _ (sm _ _ hph))
      · rcases List.mem_append.mp hf with z | z
        · rcases List.mem_append.mp z with z | z
          · exact h3 f z
          · exact ⟨gc.2.1 f z, dc.1 f z⟩
        · rw [List.mem_singleton.mp z]; exact ⟨gc.2.2, dc.2⟩
      · simp only [List.length_append, List.length_cons, List.length_nil]; omega
    · rintro σ G ⟨y2, y3, l, as, fs, rfl, sm, h1, h2, h3, h4⟩
      have hdl := hD.dl
      refine ⟨_, rfl, l, as, fs, Dp, rfl, SqL.of h1, h2, fun f hf => (h3 f hf).2, by omega, fun a L na hL1 hL2 nd => ?_⟩
      have s5 := same_upd (o := SetF P w a L) na
      refine ⟨a, L, rfl, upd_same, fun p hp => ⟨s5 _ _ (hL1 p hp).1, (h3 _ (hL1 p hp).2).1.shp⟩, fun bs' fs' p' hp' hperm hup hn => ?_⟩
      have s6 := same_upd (o := HO.lst (bs'.map V.ref)) hn
      refine q _ p' bs' fs' (sm.trans (s5.trans s6)) upd_same (Paired.mapP hp' fun _ _ z => s6 _ _ z) (fun f hf => ?_) ?_
      · obtain ⟨p, hp, rfl⟩ := List.mem_map.mp (hperm.mem_iff.mp hf)
        exact (h3 _ (hL1 p hp).2).1
      · have z := few_of (L.map (·.2)) Dp nd fun f hf => by
          obtain ⟨p, hp, rfl⟩ := List.mem_map.mp hf
          exact (h3 _ (hL1 p hp).2).2
        rw [hperm.length_eq]
        omega
end
end L2.My
end
section
set_option Elab.async false
set_option linter.all false
set_option maxRecDepth 100000
set_option maxHeartbeats 4000000
namespace L2.My
open PySem PySem.Spec PyProof.Rows
/-- there is just one ascending list of these facts -/
theorem up_uniq : ∀ {l m : List Fc}, UpF l → UpF m → l.Nodup → m.Nodup → (∀ f, f ∈ l ↔ f ∈ m) → l = m
  | [], [], _, _, _, _, _ => rfl
  | [], y :: m, _, _, _, _, h => absurd ((h y).mpr List.mem_cons_self) (by simp)
  | x :: l, [], _, _, _, _, h => absurd ((h x).mp List.mem_cons_self) (by simp)
  | x :: l, y :: m, hl, hm, nl, nm, h => by
    obtain ⟨l1, l2⟩ := List.pairwise_cons.mp hl
    obtain ⟨m1, m2⟩ := List.pairwise_cons.mp hm
    obtain ⟨nl1, nl2⟩ := List.nodup_cons.mp nl
    obtain ⟨nm1, nm2⟩ := List.nodup_cons.mp nm
    have e : x = y := by
      rcases List.mem_cons.mp ((h x).mp List.mem_cons_self) with e | hx
      · exact e
      · rcases List.mem_cons.mp ((h y).mpr List.mem_cons_self) with e | hy
        · exact e.symm
        · exact ltF_tot (m1 x hx) (l1 y hy)
    subst e
    have t : l = m := up_uniq l2 m2 nl2 nm2 fun f => by
      constructor
      · intro hf
        rcases List.mem_cons.mp ((h f).mp (List.mem_cons_of_mem _ hf)) with e | z
        · rw [e] at hf; exact absurd hf nl1
        · exact z
      · intro hf
        rcases List.mem_cons.mp ((h f).mpr (List.mem_cons_of_mem _ hf)) with e | z
        · rw [e] at hf; exact absurd hf nm1
        · exact z
    rw [t]
theorem isKeys_pair {H : Hp} {kvs : List (Fc × V)} {bs : List Addr} (h : IsKeys H kvs bs) : Paired (TupAt H) bs (kvs.map (·.1)) := by
  unfold IsKeys at h
  induction h with
  | nil => exact .nil
  | cons r _ ih => exact .cons r ih
theorem alk_pair {H : Hp} {as : List Addr} {fs : List Fc} (h : Paired (FactAt H) as fs) : ∀ {bs : List Addr}, Paired (FactAt H) bs fs → (∀ f ∈ fs, GF f) → Paired (Alk H) (as.map V.ref) (bs.map V.ref) := by
  induction h with
  | nil =>
    intro bs k _
    cases k
    exact .nil
  | @cons a f as fs r _ ih =>
    intro bs k g
    cases k with
    | cons r2 k2 => exact .cons (.inr ⟨a, _, f, rfl, rfl, r, r2, g f List.mem_cons_self⟩) (ih k2 fun f hf => g f (List.mem_cons_of_mem _ hf))
theorem der_mono {cs ds : List Cz} {G G' : Fc → Prop} {f : Fc} (d : Der cs G none f) (hc : ∀ c ∈ cs, c ∈ ds) (hG : ∀ f, G f → G' f) : Der ds G' none f := by
  refine d.closed (S := Der ds G' none) (fun f h => .gr (hG f h)) fun i b h e _ hb => ?_
  obtain ⟨j, hj⟩ := List.getElem?_of_mem (hc _ (List.mem_of_getElem? e))
  exact .cl hj (by simp) hb
theorem HeldL.same {H H' : Hp} {l : Addr} {S : Fc → Prop} (h : HeldL H l S) (s : Same H H') : HeldL H' l S := by
  obtain ⟨as, fs, h1, h2, r⟩ := h
  exact ⟨as, fs, s _ _ h1, Paired.mapP h2 fun _ _ z => s _ _ z, r⟩
/-- the own account -/
structure KO (cs : List Cz) (gs : List (List Fc)) (ns : List Nat) (kvs : List (Fc × V)) : Prop where
  nd : (kvs.map (·.1)).Nodup
  mem : ∀ f, f ∈ kvs.map (·.1) ↔ Der cs (Gof gs ns) none f
  val : ∀ f, Der cs (Gof gs ns) none f → valV kvs f = some (rdV cs (Gof gs ns) f)
theorem KO.get {cs : List Cz} {gs : List (List Fc)} {ns : List Nat} {kvs : List (Fc × V)} (h : KO cs gs ns kvs) (f : Fc) : (valV kvs f).getD .non = rdV cs (Gof gs ns) f := by
  by_cases d : Der cs (Gof gs ns) none f
  · rw [h.val f d]; rfl
  · rw [rdV_no d]
    have e : valV kvs f = none := valV_iff.mpr fun z => d ((h.mem f).mp z)
    rw [e]; rfl
theorem rdV_atm (cs : List Cz) (G : Fc → Prop) (f : Fc) : ∃ t, Atm (rdV cs G f) t := by
  unfold rdV
  split
  · exact ⟨_, .int _⟩
  · exact ⟨_, .non⟩
/-- a rule and a lot of which the same holds -/
def OthAt (H : Hp) (C : Addr) (S : Fc → Prop) (v : V) : Prop := ∃ (t r lt dr ca ga : Addr) (cs : List Cz) (gs : List (List Fc)) (ns : List Nat), v = .ref t ∧ H t = some (.tup [.ref r, .ref lt]) ∧ RuleAt H C r dr ca ga cs gs ∧ GR cs gs ∧ H lt = some (.tup (nI ns)) ∧ LotOk gs ns ∧ ∀ f, Der cs (Gof gs ns) none f ↔ S f
theorem OthAt.same {H H' : Hp} {C : Addr} {S : Fc → Prop} {v : V} (h : OthAt H C S v) (s : Same H H') : OthAt H' C S v := by
  obtain ⟨t, r, lt, dr, ca, ga, cs, gs, ns, e, h1, h2, h3, h4, r⟩ := h
  exact ⟨t, _, lt, dr, ca, ga, cs, gs, ns, e, s _ _ h1, h2.same s, h3, s _ _ h4, r⟩
theorem OthAt.put {H : Hp} {C o : Addr} {S : Fc → Prop} {v : V} {xs ys : List V} (h : OthAt H C S v) (ho : H o = some (.lst xs)) : OthAt (upd H o (.lst ys)) C S v := by
  have tk : TK H (upd H o (.lst ys)) := TK.upd ho (fun _ e => nomatch e)
  obtain ⟨t, r, lt, dr, ca, ga, cs, gs, ns, e, h1, h2, h3, h4, rest⟩ := h
  have nr : r ≠ o := fun e => by
    have z := h2.1
    rw [e, ho] at z
    cases z
  exact ⟨t, r, lt, dr, ca, ga, cs, gs, ns, e, tk _ _ h1, h2.keep tk (upd_ne nr), h3, tk _ _ h4, rest⟩
theorem gfs_len {gs : List (List Fc)} (h : ∀ g ∈ gs, g.length ≤ 3) : ∀ (ns : List Nat), (gfs gs ns).length ≤ 3 * ns.length
  | [] => Nat.le_refl _
  | n :: ns => by
    have i1 := gfs_len h ns
    have : (gs[n]?.getD []).length ≤ 3 := by
      cases e : gs[n]? with
      | none => exact Nat.zero_le _
      | some g => exact h g (List.mem_of_getElem? e)
    unfold gfs at i1 ⊢
    rw [List.flatMap_cons, List.length_append, List.length_cons]
    omega
theorem gof_join {gs : List (List Fc)} {ns : List Nat} (f : Fc) : Gof (gs ++ [gfs gs ns]) [gs.length] f ↔ Gof gs ns f := by
  refine Iff.trans ?_ (gfs_mem (gs := gs) (ns := ns) (f := f))
  unfold Gof
  constructor
  · rintro ⟨n, hn, g, hg, hf⟩
    rw [List.mem_singleton.mp hn, List.getElem?_append_right (Nat.le_refl _), Nat.sub_self] at hg
    cases hg
    exact hf
  · intro hf
    exact ⟨gs.length, by simp, gfs gs ns, by rw [List.getElem?_append_right (Nat.le_refl _), Nat.sub_self]; rfl, hf⟩
theorem GR.perm {cs ds : List Cz} {gs : List (List Fc)} (h : GR cs gs) (p : ds.Perm cs) : GR ds gs := ⟨fun c hc => h.cl c (p.mem_iff.mp hc), h.gr, by rw [p.length_eq]; exact h.nc, h.ng, h.nf⟩
/-- a permuted tuple of clauses -/
theorem cls_perm {H : Hp} {cas : List Addr} {cs : List Cz} (h : Paired (ClAt H) cas cs) {ys : List V} (p : ys.Perm (cas.map V.ref)) : ∃ (das : List Addr) (ds : List Cz), ys = das.map V.ref ∧ ds.Perm cs ∧ Paired (ClAt H) das ds := by
  have h2 : Paired (fun v c => ∃ a, v = V.ref a ∧ ClAt H a c) (cas.map V.ref) cs := by
    clear p
    induction h with
    | nil => exact .nil
    | cons r _ ih => exact .cons ⟨_, rfl, r⟩ ih
  have gen : ∀ {ys vs : List V}, ys.Perm vs → ∀ {cs : List Cz}, Paired (fun v c => ∃ a, v = V.ref a ∧ ClAt H a c) vs cs → ∃ ds, ds.Perm cs ∧ Paired (fun v c => ∃ a, v = V.ref a ∧ ClAt H a c) ys ds := by
    intro ys vs p
    induction p with
    | nil => exact fun q => ⟨_, .refl _, q⟩
    | cons x _ ih =>
      intro cs q
      cases q with
      | cons r q => obtain ⟨ds, d1, d2⟩ := ih q; exact ⟨_ :: ds, d1.cons _, .cons r d2⟩
    | swap x y l =>
      intro cs q
      cases q with
      | cons r q =>
        cases q with
        | cons r2 q => exact ⟨_ :: _ :: _, List.Perm.swap _ _ _, .cons r2 (.cons r q)⟩
    | trans _ _ i1 i2 =>
      intro cs q
      obtain ⟨d1, a1, a2⟩ := i2 q
      obtain ⟨d2, b1, b2⟩ := i1 a2
      exact ⟨d2, b1.trans a1, b2⟩
  obtain ⟨ds, d1, d2⟩ := gen p h2
  have fin : ∀ {ys : List V} {ds : List Cz}, Paired (fun v c => ∃ a, v = V.ref a ∧ ClAt H a c) ys ds → ∃ das : List Addr, ys = das.map V.ref ∧ Paired (ClAt H) das ds := by
    intro ys ds q
    induction q with
    | nil => exact ⟨[], rfl, .nil⟩
    | cons r _ ih =>
      obtain ⟨a, e, hc⟩ := r
      obtain ⟨das, e2, q2⟩ := ih
      exact ⟨a :: das, by rw [e, e2]; rfl, .cons hc q2⟩
  obtain ⟨das, e, q⟩ := fin d2
  exact ⟨das, ds, e, d1, q⟩
theorem catA_ref {K : PySem.W.Frag} {H : Hp} {a b : Addr} {xs ys : List V} {Q : VK} (ha : H a = some (.tup xs)) (hb : H b = some (.tup ys)) (hl : xs.length + ys.length ≤ sizeLine) (h : ∀ c G, Same H G → G c = some (.tup (xs ++ ys)) → Q (.ref c) G) : rCatA K (.ref a) (.ref b) H Q := by
  refine ⟨a, b, xs, ys, rfl, rfl, .of ha, .of hb, hl, fun e => ?_, fun _ e => ?_, fun _ _ p np => ?_⟩
  · exact h b H (Same.refl _) (by rw [hb, e]; rfl)
  · exact h a H (Same.refl _) (by rw [ha, e, List.append_nil])
  · exact h p _ (same_upd np) upd_same
theorem lot_all {gs : List (List Fc)} (h : gs.length ≤ 60) : LotOk gs (List.range gs.length) := by
  refine ⟨by rw [List.length_range]; exact h, fun n hn => List.mem_range.mp hn, fun i x y hx hy => ?_⟩
  obtain ⟨h1, e1⟩ := List.getElem?_eq_some_iff.mp hx
  obtain ⟨h2, e2⟩ := List.getElem?_eq_some_iff.mp hy
  rw [List.getElem_range] at e1 e2
  omega
theorem lot_one {gs : List (List Fc)} {g : List Fc} : LotOk (gs ++ [g]) [gs.length] := by
  refine ⟨by show 1 ≤ 60; decide, fun n hn => ?_, fun i x y hx hy => ?_⟩
  · rw [List.mem_singleton.mp hn, List.length_append]
    exact Nat.lt_succ_self _
  · have := (List.getElem?_eq_some_iff.mp hy).1
    simp at this
theorem any_in {fs : List Fc} {f : Fc} (h : f ∈ fs) : ((fs.map dF).any fun z => PyData.eqv z (dF f)) = true := by
  rw [List.any_eq_true]
  exact ⟨dF f, List.mem_map.mpr ⟨f, h, rfl⟩, by rw [show PyData.eqv (dF f) (dF f) = decide (f = f) from eqv_p f f]; exact decide_eq_true rfl⟩
def rListDT : List V → Hp → VK → Prop := fun xs H Q => ∃ d kvs, xs = [V.ref d] ∧ Rd H d (.dT kvs) ∧ ∀ p bs, H p = none → IsKeys H kvs bs → Q (.ref p) (upd H p (.lst (bs.map V.ref)))
theorem cr_listDT {X : Cx} (hc : X.calm = true) : CallR X (.type "list") rListDT := call_list_dT hc
end L2.My
end
section
set_option Elab.async false
set_option linter.all false
set_option maxRecDepth 100000
set_option maxHeartbeats 4000000
/-! The reasons: what a fact's origins lead back to, in the order in which it was found. -/
namespace L2.My
open PySem PySem.Spec PyProof.Rows
def kids (cs : List Cz) (q : Wo) : List Fc := if q.2.1 = true then bo cs q.2.2 else []
inductive Rch (cs : List Cz) (F : List Wo) (f : Fc) : Fc → Prop where
  | base : Rch cs F f f
  | step {q : Wo} {h : Fc} (r : Rch cs F f q.1.1) (m : q ∈ F) (hb : h ∈ kids cs q) : Rch cs F f h
open Classical in
noncomputable def rsn (cs : List Cz) (F : List Wo) (f : Fc) : List Wo := F.filter fun q => decide (Rch cs F f q.1.1)
/-- all that was found, the one outcome -/
structure FndW (cs : List Cz) (gs : List (List Fc)) (ns : List Nat) (F : List Wo) : Prop where
  len : F.length ≤ 100000
  nd : (ks (wi F)).Nodup
  der : ∀ f, f ∈ ks (wi F) ↔ Der cs (Gof gs ns) none f
  fo : FoOk cs gs ns F
  st : StR cs gs ns F
theorem FndW.uniq {cs : List Cz} {gs : List (List Fc)} {ns : List Nat} {F F' : List Wo} (a : FndW cs gs ns F) (b : FndW cs gs ns F') : F = F' := a.st.uniq b.st
theorem mem_kw {F : List Wo} {f : Fc} : f ∈ ks (wi F) ↔ ∃ q ∈ F, q.1.1 = f := by
  unfold ks wi
  rw [List.map_map, List.mem_map]
  rfl
theorem kw_uniq {F : List Wo} (h : (ks (wi F)).Nodup) {q p : Wo} (hq : q ∈ F) (hp : p ∈ F) (e : q.1.1 = p.1.1) : q = p := by
  induction F with
  | nil => cases hq
  | cons x F ih =>
    have hx : x.1.1 ∉ ks (wi F) ∧ (ks (wi F)).Nodup := by
      have := h
      unfold ks wi at this ⊢
      rw [List.map_cons, List.map_cons, List.nodup_cons] at this
      exact this
    rcases List.mem_cons.mp hq with eq | hq
    · rcases List.mem_cons.mp hp with ep | hp
      · rw [eq, ep]
      · rw [eq] at e; exact absurd (mem_kw.mpr ⟨p, hp, e.symm⟩) hx.1
    · rcases List.mem_cons.mp hp with ep | hp
      · rw [ep] at e; exact absurd (mem_kw.mpr ⟨q, hq, e⟩) hx.1
      · exact ih hx.2 hq hp
theorem kids_in {cs : List Cz} {gs : List (List Fc)} {ns : List Nat} {F : List Wo} (fo : FoOk cs gs ns F) {q : Wo} {i : Nat} (hq : F[i]? = some q) {h : Fc} (hh : h ∈ kids cs q) : h ∈ ks (wi (F.take i)) := by
  unfold kids at hh
  rcases fo i q hq with ⟨e, _⟩ | ⟨e, _, _, hb⟩
  · rw [e, if_neg (by simp)] at hh; cases hh
  · rw [if_pos e] at hh; exact hb h hh
theorem kids_len {cs : List Cz} {q : Wo} (hG : ∀ c ∈ cs, c.1.length ≤ 4) : (kids cs q).length ≤ 4 := by
  unfold kids
  by_cases e : q.2.1 = true
  · rw [if_pos e]
    unfold bo
    cases h : cs[q.2.2]? with
    | none => exact Nat.zero_le _
    | some c => exact hG c (List.mem_of_getElem? h)
  · rw [if_neg e]; exact Nat.zero_le _
theorem Rch.found {cs : List Cz} {gs : List (List Fc)} {ns : List Nat} {F : List Wo} {f g : Fc} (fo : FoOk cs gs ns F) (hf : f ∈ ks (wi F)) (r : Rch cs F f g) : g ∈ ks (wi F) := by
  induction r with
  | base => exact hf
  | step _ m hb _ =>
    obtain ⟨i, hi⟩ := List.getElem?_of_mem m
    obtain ⟨p, hp, e⟩ := mem_kw.mp (kids_in fo hi hb)
    exact mem_kw.mpr ⟨p, List.mem_of_mem_take hp, e⟩
/-- on the way -/
structure JQ (cs : List Cz) (F : List Wo) (f : Fc) (W : List Wo) (Wl : List Fc) : Prop where
  sub : ∀ q ∈ W, q ∈ F ∧ Rch cs F f q.1.1
  nd : (ks (wi W)).Nodup
  wl : ∀ g ∈ Wl, Rch cs F f g
  has : f ∈ ks (wi W) ∨ f ∈ Wl
  cl : ∀ q ∈ W, ∀ h ∈ kids cs q, h ∈ ks (wi W) ∨ h ∈ Wl
section
variable {cs : List Cz} {gs : List (List Fc)} {ns : List Nat} {F W : List Wo} {f g : Fc} {Wl : List Fc} {q : Wo}
theorem JQ.start : JQ cs F f [] [f] := ⟨by simp, by exact List.nodup_nil, fun g h => by rw [List.mem_singleton.mp h]; exact .base, .inr (by simp), by simp⟩
theorem JQ.skip (j : JQ cs F f W (Wl ++ [g])) (h : g ∈ ks (wi W)) : JQ cs F f W Wl := by
  have up : ∀ x, x ∈ ks (wi W) ∨ x ∈ Wl ++ [g] → x ∈ ks (wi W) ∨ x ∈ Wl := fun x hx => by
    rcases hx with z | z
    · exact .inl z
    · rcases List.mem_append.mp z with z | z
      · exact .inr z
      · rw [List.mem_singleton.mp z]; exact .inl h
  exact ⟨j.sub, j.nd, fun x hx => j.wl x (List.mem_append_left _ hx), up _ j.has, fun p hp x hx => up _ (j.cl p hp x hx)⟩
theorem JQ.take (j : JQ cs F f W (Wl ++ [g])) (h : g ∉ ks (wi W)) (hq : q ∈ F) (e : q.1.1 = g) : JQ cs F f (W ++ [q]) (Wl ++ kids cs q) := by
  have ek : ks (wi (W ++ [q])) = ks (wi W) ++ [g] := by rw [wi_snoc, ks_snoc, e]
  have rg : Rch cs F f g := j.wl g (by simp)
  have up : ∀ x, x ∈ ks (wi W) ∨ x ∈ Wl ++ [g] → x ∈ ks (wi (W ++ [q])) ∨ x ∈ Wl ++ kids cs q := fun x hx => by
    rw [ek]
    rcases hx with z | z
    · exact .inl (List.mem_append_left _ z)
    · rcases List.mem_append.mp z with z | z
      · exact .inr (List.mem_append_left _ z)
      · exact .inl (List.mem_append_right _ z)
  refine ⟨fun p hp => ?_, ?_, fun x hx => ?_, up _ j.has, fun p hp x hx => ?_⟩
  · rcases List.mem_append.mp hp with z | z
    · exact j.sub p z
    · rw [List.mem_singleton.mp z, e]; exact ⟨hq, rg⟩
  · rw [ek]
    exact List.nodup_append.mpr ⟨j.nd, by simp, fun a ha b hb => by rw [List.mem_singleton.mp hb]; intro z; rw [z] at ha; exact h ha⟩
  · rcases List.mem_append.mp hx with z | z
    · exact j.wl x (List.mem_append_left _ z)
    · exact .step (q := q) (by rw [e]; exact rg) hq z
  · rcases List.mem_append.mp hp with z | z
    · exact up _ (j.cl p z x hx)
    · rw [List.mem_singleton.mp z] at hx
      exact .inr (List.mem_append_right _ hx)
theorem JQ.le (j : JQ cs F f W Wl) : W.length ≤ F.length := by
  have := few_of _ (ks (wi F)) j.nd fun x hx => by
    obtain ⟨q, hq, e⟩ := mem_kw.mp hx
    exact mem_kw.mpr ⟨q, (j.sub q hq).1, e⟩
  unfold ks wi at this
  rw [List.length_map, List.length_map, List.length_map, List.length_map] at this
  exact this
theorem JQ.fin (j : JQ cs F f W []) (hn : (ks (wi F)).Nodup) (x : Fc) : x ∈ ks (wi W) ↔ Rch cs F f x := by
  constructor
  · intro h
    obtain ⟨q, hq, e⟩ := mem_kw.mp h
    rw [← e]; exact (j.sub q hq).2
  · intro h
    induction h with
    | base => rcases j.has with z | z; exact z; cases z
    | @step q h _ m hb ih =>
      obtain ⟨p, hp, e⟩ := mem_kw.mp ih
      have : p = q := kw_uniq hn (j.sub p hp).1 m e
      rw [this] at hp
      rcases j.cl q hp h hb with z | z
      · exact z
      · cases z
/-- the last of them is the fact -/
theorem rch_ahead (fo : FoOk cs gs ns F) (hn : (ks (wi F)).Nodup) {n : Nat} {q0 : Wo} (h0 : F[n]? = some q0) (r : Rch cs F q0.1.1 g) : ∃ i q, i ≤ n ∧ F[i]? = some q ∧ q.1.1 = g := by
  induction r with
  | base => exact ⟨n, q0, Nat.le_refl _, h0, rfl⟩
  | @step q h _ m hb ih =>
    obtain ⟨i, p, hi, hp, e⟩ := ih
    have : p = q := kw_uniq hn (List.mem_of_getElem? hp) m e
    subst this
    obtain ⟨p2, hp2, e2⟩ := mem_kw.mp (kids_in fo hp hb)
    obtain ⟨j, hj⟩ := List.getElem?_of_mem hp2
    rw [List.getElem?_take] at hj
    by_cases hl : j < i
    · rw [if_pos hl] at hj
      exact ⟨j, p2, by omega, hj, e2⟩
    · rw [if_neg hl] at hj; cases hj
end
end L2.My
end
section
set_option Elab.async false
set_option linter.all false
set_option maxRecDepth 100000
set_option maxHeartbeats 4000000
namespace L2.My
open PySem PySem.Spec PyProof.Rows
abbrev sReas : Stmt := top 27
abbrev nRs : List Str := ["rule", "lot", "fact", "found", "wanted", "waiting", "other", "word", "at"]
/-- a fact and its origin -/
def PrAt (H : Hp) (p : Addr) (q : Wo) : Prop := ∃ b o, H p = some (.tup [.ref b, .ref o]) ∧ FactAt H b q.1.1 ∧ OgAt H o q.2
def RsAt (H : Hp) (a : Addr) (l : List Wo) : Prop := ∃ as : List Addr, H a = some (.tup (as.map .ref)) ∧ Paired (PrAt H) as l
def ToldR (H : Hp) (v : V) (cs : List Cz) (gs : List (List Fc)) (ns : List Nat) (f : Fc) : Prop := (¬ Der cs (Gof gs ns) none f ∧ v = .non) ∨
  (Der cs (Gof gs ns) none f ∧ ∃ x F, v = .ref x ∧ FndW cs gs ns F ∧ RsAt H x (rsn cs F f))
def spReas (C : Addr) : Sp := fun vs H Q _ => ∃ (r lt a dr ca ga : Addr) (cs : List Cz) (gs : List (List Fc)) (ns : List Nat) (f : Fc), vs = [.ref r, .ref lt, .ref a] ∧ RuleAt H C r dr ca ga cs gs ∧ GR cs gs ∧ H lt = some (.tup (nI ns)) ∧ LotOk gs ns ∧ FactAt H a f ∧ GF f ∧
  ∀ H' v, Same H H' → ToldR H' v cs gs ns f → Q v H'
/-- what is wanted so far, on the heap -/
def WDr (H : Hp) (kv : Fc × V) (q : Wo) : Prop := kv.1 = q.1.1 ∧ ∃ o, kv.2 = .ref o ∧ OgAt H o q.2
theorem OgAt.tk {H H' : Hp} {o : Addr} {g : Og} (h : OgAt H o g) (t : TK H H') : OgAt H' o g := t _ _ h
theorem PrAt.tk {H H' : Hp} {p : Addr} {q : Wo} (h : PrAt H p q) (t : TK H H') : PrAt H' p q := by
  obtain ⟨b, o, h1, h2, h3⟩ := h
  exact ⟨b, o, t _ _ h1, h2.tk t, h3.tk t⟩
theorem WDr.tk {H H' : Hp} {p : Fc × V} {q : Wo} (h : WDr H p q) (t : TK H H') : WDr H' p q := by
  obtain ⟨h1, o, h2, h3⟩ := h
  exact ⟨h1, o, h2, h3.tk t⟩
theorem wdr_keys {H : Hp} {kvs : List (Fc × V)} {F : List Wo} (h : Paired (WDr H) kvs F) : kvs.map (·.1) = ks (wi F) := by
  induction h with
  | nil => rfl
  | cons r _ ih => exact congr (congrArg List.cons r.1) ih
theorem wdr_at {H : Hp} {kvs : List (Fc × V)} {F : List Wo} (h : Paired (WDr H) kvs F) {g : Fc} {v : V} (e : valV kvs g = some v) : ∃ q ∈ F, q.1.1 = g ∧ ∃ o, v = .ref o ∧ OgAt H o q.2 := by
  induction h with
  | nil => cases e
  | @cons kv q0 kvs F hq _ ih =>
    by_cases ek : kv.1 = g
    · rw [valV_pos ek] at e
      cases e
      exact ⟨q0, by simp, by rw [← hq.1]; exact ek, hq.2⟩
    · rw [valV_neg ek] at e
      obtain ⟨q, h1, h2⟩ := ih e
      exact ⟨q, List.mem_cons_of_mem _ h1, h2⟩
theorem frx_at {H : Hp} {kvs : List (Fc × V)} {F : List Wo} (h : Paired (FRX H) kvs F) {g : Fc} {v : V} (e : valV kvs g = some v) : ∃ q ∈ F, q.1.1 = g ∧ FVX H v q.1.2 q.2 := by
  induction h with
  | nil => cases e
  | @cons kv q0 kvs F hq _ ih =>
    by_cases ek : kv.1 = g
    · rw [valV_pos ek] at e
      cases e
      exact ⟨q0, by simp, by rw [← hq.1]; exact ek, hq.2⟩
    · rw [valV_neg ek] at e
      obtain ⟨q, h1, h2⟩ := ih e
      exact ⟨q, List.mem_cons_of_mem _ h1, h2⟩
theorem paired_snoc {α β : Type} {R : α → β → Prop} : ∀ {as : List α} {a : α} {bs : List β}, Paired R (as ++ [a]) bs → ∃ bs' b, bs = bs' ++ [b] ∧ Paired R as bs' ∧ R a b
  | [], _, _, h => by
    cases h with
    | cons r t => cases t; exact ⟨[], _, rfl, .nil, r⟩
  | x :: as, _, _, h => by
    cases h with
    | cons r t =>
      obtain ⟨bs', b, e, h1, h2⟩ := paired_snoc t
      exact ⟨_ :: bs', b, by rw [e]; rfl, .cons r h1, h2⟩
theorem val_some {kvs : List (Fc × V)} {k : Fc} (h : k ∈ kvs.map (·.1)) : ∃ v, valV kvs k = some v := by
  cases e : valV kvs k with
  | none => exact absurd h (valV_iff.mp e)
  | some v => exact ⟨v, rfl⟩
section
variable {P : Program} {w : World} {K : PySem.W.Frag} {mg : Str → Option Value} {base : Heap} {C D : Addr}
theorem scRs : FnScope nRs ["rule", "lot", "fact"] (defScope sReas) := ⟨rfl, rfl, rfl, by decide +kernel, rfl, by decide +kernel, by decide +kernel⟩
theorem ok_reasons {f : Addr} {fd : FuncData} {k : Nat} (F : Fun K "reasons" "reasons" sReas f fd) (T : Tx mg) (rc : RuC K C) (dc : DeC K D) (cA : Cal P w K mg base (k + 3) "check_asked" ["rule", "lot", "fact"] (spAsked C)) (cDe : Mak P w K mg base (k + 1) D "Deriver" ["self", "rule"] (spDer C D)) (cDd : Met P w K mg base (k + 1) D "derived" ["self", "lot"] (spDerived C D)) :
    FnOk P w K mg base CX0 (k + 4) f fd ["rule", "lot", "fact"] (spReas C) := by
  refine F.ok scRs (fun vs H Q E h => ?_) (fun cdv A outer s H vs Q E hr h => ?_)
  · obtain ⟨r, lt, a, dr, ca, ga, cs, gs, ns, g, rfl, _⟩ := h
    rfl
  · obtain ⟨r, lt, a, dr, ca, ga, cs, gs, ns, g, rfl, hR, hG, hlt, hL, hf, hg, q⟩ := h
    refine ⟨_, (pss_cons (ps_expr (pe_c cA hr (by omega) (by rfl) (pa_cons (pv 0) (pa_cons (pv 1) (pa_cons (pv 2) pa_nil))))) (pss_cons (ps_set (i := 3) scRs.nd rfl (Or.inl rfl) (pe_me cDd hr (by omega) (pe_mk cDe hr (by omega) (by rfl) (pa_cons (pv 0) pa_nil)) (pa_cons (pv 1) pa_nil))) (pss_cons (ps_if (pt_cmp (pc_dnotin (u1 hr) (pv 2) (pv 3))) (pss_one (ps_ret pe_non)) pss_nil) (pss_cons (ps_set (i := 4) scRs.nd rfl (Or.inr rfl) pe_dnewT) (pss_cons (ps_set (i := 5) scRs.nd rfl (Or.inl rfl) (pe_lst (pa_cons (pv 2) pa_nil))) (pss_cons (ps_while PassesOwn.never (pt_truth (pv 5) (fun _ => rfl)) (pss_cons (ps_set (i := 6) scRs.nd rfl (Or.inl rfl) (pe_bm0 PySem.F.plainAttrs_list PySem.F.slot_list_pop PySem.F.type_list_pop mt_pop (pv 5))) (pss_one (ps_if (pt_cmp (pc_dnotin (u1 hr) (pv 6) (pv 4))) (pss_cons (ps_asg (pe_ix ix_tup (pe_dget (u1 hr) (pv 3) (pv 6) (fun _ _ => rfl)) pe_int (fun _ _ => rfl)) (pg_tup rfl (pgs_cons (pg_name (i := 7) scRs.nd rfl (Or.inl rfl)) (pgs_cons (pg_name (i := 8) scRs.nd rfl (Or.inl rfl)) pgs_nil)))) (pss_cons (ps_dput (u1 hr) (pv 4) (pv 6) (pe_tup (pa_cons (pv 7) (pa_cons (pv 8) pa_nil))) rfl) (pss_one (ps_expr (pe_bm PySem.F.plainAttrs_list PySem.F.slot_list_extend PySem.F.type_list_extend mt_extT (pv 5) (pa_cons (pe_ifExp (pt_cmpR op_eq (pv 7) pe_str (nomark _)) (pe_ix ix_tup (pe_ix ix_tup (pe_fld (pv 0) rfl) (pv 8) (fun _ _ => rfl)) pe_int (fun _ _ => rfl)) (pe_tup pa_nil)) pa_nil)))))) pss_nil)))) (pss_one (ps_ret (pe_lock (pe_tupleOf (by rfl) T.tuple_ (pe_lc (own := [("other", 6)]) (g := gName 6) (te := tTup (tCons (tVar 6) (tCons (tDGet (tVar 4) (tVar 6)) tNil))) (tt := tB (tDIn (tVar 6) (tVar 4))) rfl scRs.nd (pi_keys (pv 3)) (blkOk_by (N := nRs) (sc := defScope sReas) (by decide +kernel)) (fun _ _ _ _ _ => pg_name (i := 6) scRs.nd rfl (Or.inl rfl)) (fun _ _ _ _ _ => (pts_one (pt_cmp (pc_din (u1 hr) (pv 6) (pv 4))))) (fun _ _ _ _ _ => (pe_tup (pa_cons (pv 6) (pa_cons (pe_dget (u1 hr) (pv 4) (pv 6) (fun _ _ => rfl)) pa_nil))))))))))))))), ?_⟩
    refine ⟨_, rfl, _, rfl, _, rfl, r, lt, a, dr, ca, ga, cs, gs, ns, g, rfl, hR, hG, hlt, hL, hf, hg, fun H1 s1 => ?_⟩
    refine ⟨_, rfl, fun x dx nx ndx ne => ?_⟩
    have s1' : Same H1 (upd (upd H1 dx (.own x)) x (.ins D dx [])) := (same_upd ndx).trans (same_upd (by rw [upd_ne (Ne.symm ne)]; exact nx))
    refine ⟨x, dx, r, dr, ca, ga, cs, gs, rfl, upd_same, (hR.same s1).same s1', hG, fun H2 u z b bl hD => ?_⟩
    have s2 : Same H1 H2 := fun p o e => bl p o (by
      rw [List.mem_singleton]
      intro e2
      rw [e2, nx] at e; cases e) (s1' p o e)
    refine ⟨rfl, x, dx, _, rfl, hD.1, rfl, _, rfl, x, lt, dx, r, dr, ca, ga, u, z, b, cs, gs, ns, rfl, (hR.same s1).same s2, hG, hD, s2 _ _ (s1 _ _ hlt), hL.len, hL.bnd, fun H3 fd s3 nfd hF => ?_⟩
    have sm3 : Same H H3 := s1.trans (s2.trans s3)
    have nfH : H fd = none := (s1.trans s2).free nfd
    clear bl hD s1' s3 nfd s2 s1
    obtain ⟨Fw, ⟨kvs, hkv, hkp⟩, hlen, hnd, hder, hfo, hst⟩ := hF
    have hks := frx_keys hkp
    have hW : FndW cs gs ns Fw := ⟨hlen, hnd, hder, hfo, hst⟩
    refine ⟨_, rfl, _, rfl, fd, _, rfl, DGet.t hkv (sm3 _ _ hf), _, rfl, ?_⟩
    cases e : valV kvs g with
    | none =>
      exact iteT (q _ _ sm3 (.inl ⟨fun d => valV_iff.mp e (by rw [hks]; exact (hder g).mpr d), rfl⟩))
    | some v0 =>
      refine iteF ?_
      have hgF : g ∈ ks (wi Fw) := by
        rw [← hks]
        cases Classical.em (g ∈ kvs.map (·.1)) with
        | inl z => exact z
        | inr z => rw [valV_iff.mpr z] at e; cases e
      intro wd nwd
      have s4 : Same H3 (upd H3 wd (.dT [])) := same_upd nwd
      have hwd4 : (upd H3 wd (.dT [])) wd = some (.dT []) := upd_same
      generalize hG4 : upd H3 wd (.dT []) = G4 at *
      refine ⟨_, rfl, by show 1 ≤ sizeLine; decide, fun wt nwt => ?_⟩
      have nwt3 : H3 wt = none := s4.free nwt
      have nwtd : wt ≠ wd := fun e => by rw [e, hwd4] at nwt; cases nwt
      have s5 : Same G4 (upd G4 wt (.lst [.ref a])) := same_upd nwt
      have hwt5 : (upd G4 wt (.lst [.ref a])) wt = some (.lst [.ref a]) := upd_same
      generalize hG5 : upd G4 wt (.lst [.ref a]) = G5 at *
      have s45 := s4.trans s5
      dsimp only [gName, tSeq]
      refine while_m (fun m σ G => ∃ y6 y7 y8 W Wl wkv as, σ = [some (.ref r), some (.ref lt), some (.ref a), some (.ref fd), some (.ref wd), some (.ref wt), y6, y7, y8] ∧ Same H3 G ∧ G wd = some (.dT wkv) ∧ Paired (WDr G) wkv W ∧ G wt = some (.lst (as.map .ref)) ∧ Paired (FactAt G) as Wl ∧ JQ cs Fw g W Wl ∧ Wl.length + 5 * (Fw.length - W.length) ≤ 5 * Fw.length + 1 ∧ m = Wl.length + 5 * (Fw.length - W.length))
        ⟨_, _, _, _, [], [g], [], [a], rfl, s45, s5 _ _ hwd4, .nil, hwt5, .cons (s45 _ _ (sm3 _ _ hf)) .nil, .start, by show 1 + 5 * (Fw.length - 0) ≤ _; omega, rfl⟩ ?_ (fun σ H Q Q' w h => by obtain ⟨v, e, k, t, q⟩ := h; exact ⟨v, e, k, t, w _ _ q⟩)
      clear s45 hG5 hwt5 s5 hG4 hwd4 s4 nwt
      rintro m σ G ⟨y6, y7, y8, W, Wl, wkv, as, rfl, sm, hwd, hwp, hwt, htp, jq, hmu, rfl⟩
      have lle := jq.le
      have lwp := Paired.len hwp
      have ltp := Paired.len htp
      by_cases he : as = []
      · subst he
        cases htp
        refine ⟨_, rfl, false, .inl ⟨[], SqL.of hwt, rfl⟩, iteF ?_⟩
        have nfw : wd ≠ fd := fun e => by rw [e, hkv] at nwd; cases nwd
        have hkvG := sm _ _ hkv
        refine ⟨fd, .dT kvs, hkvG, trivial, fun od => ?_⟩
        have fz : (upd G fd (.frz od (.dT kvs))) fd = some (.frz od (.dT kvs)) := upd_same
        have tkz : TK G (upd G fd (.frz od (.dT kvs))) := TK.upd hkvG (fun xs e => nomatch e)
        have wdz : (upd G fd (.frz od (.dT kvs))) wd = some (.dT wkv) := by rw [upd_ne nfw]; exact hwd
        have smz : Same H (upd G fd (.frz od (.dT kvs))) := same_put (sm3.trans sm) nfH
        have hwz := Paired.mapP hwp fun _ _ z => z.tk tkz
        generalize hGz : upd G fd (.frz od (.dT kvs)) = Gz at *
        have hwk := wdr_keys hwz
        have fin := jq.fin hnd
        refine ⟨_, rfl, fd, od, rfl, .inr ⟨kvs, fz, fun D nD => ?_⟩⟩
        refine lc_it (walk_keysT (kvs := kvs)) (fun i G3 => Same Gz G3 ∧ ∃ ps : List Addr, G3 D = some (.lst (ps.map .ref)) ∧ Paired (PrAt G3) ps ((Fw.take i).filter fun q => @decide (Rch cs Fw g q.1.1) (Classical.propDecidable _))) ⟨same_upd nD, [], upd_same, .nil⟩ (fun i G3 _ h => h.1 _ _ fz) ?_ ?_
        · rintro i v G3 G3' hi ⟨sm3', ps, hps, hpp⟩ ⟨rfl, k0, v1, qa, hk, rfl, hqa⟩
          obtain ⟨q0, hq0, hfr⟩ := Paired.at' hkp hk
          have ek0 : k0 = q0.1.1 := hfr.1
          have lps := Paired.len hpp
          have lfl : ((Fw.take i).filter fun q => @decide (Rch cs Fw g q.1.1) (Classical.propDecidable _)).length ≤ Fw.length := Nat.le_trans (List.length_filter_le _ _) (by rw [List.length_take]; exact Nat.min_le_right _ _)
          refine ⟨rfl, _, rfl, _, rfl, wd, _, rfl, DGet.t (sm3' _ _ wdz) hqa, _, rfl, ?_⟩
          rw [take_snoc hq0, List.filter_append]
          by_cases hin : Rch cs Fw g q0.1.1
          · obtain ⟨v2, ev2⟩ := val_some (kvs := wkv) (k := k0) (by rw [hwk, ek0]; exact (fin _).mpr hin)
            obtain ⟨q1, hq1, e1, o, rfl, ho⟩ := wdr_at hwz ev2
            have eq1 : q1 = q0 := kw_uniq hnd (jq.sub q1 hq1).1 (List.mem_of_getElem? hq0) (e1.trans ek0)
            subst eq1
            rw [ev2]
            refine iteT ⟨_, rfl, _, rfl, _, rfl, wd, .ref o, rfl, (by rw [← ev2]; exact DGet.t (sm3' _ _ wdz) hqa), by show 2 ≤ sizeLine; decide, fun t nt => ?_⟩
            have s6 := same_upd (o := HO.tup [.ref qa, .ref o]) nt
            refine ⟨ps.map .ref, s6 _ _ hps, ?_, same_put (sm3'.trans s6) nD, ps ++ [t], ?_, ?_⟩
            · rw [List.length_map, lps]
              exact Nat.lt_of_le_of_lt (Nat.le_trans lfl hlen) (by decide)
            · rw [upd_same, List.map_append]; rfl
            · have tk6 : TK G3' (upd (upd G3' t (.tup [.ref qa, .ref o])) D (.lst (ps.map V.ref ++ [.ref t]))) := TK.trans (.same s6) (TK.upd (s6 _ _ hps) (fun xs e => nomatch e))
              rw [List.filter_cons, if_pos (by exact @decide_eq_true _ (Classical.propDecidable _) hin), List.filter_nil]
              refine Paired.snoc (Paired.mapP hpp fun _ _ z => z.tk tk6) ⟨qa, o, ?_, tk6 _ _ (by rw [← ek0]; exact hqa), tk6 _ _ (sm3' _ _ ho)⟩
              exact TK.upd (s6 _ _ hps) (fun xs e => nomatch e) _ _ upd_same
          · have e0 : valV wkv k0 = none := valV_iff.mpr (by rw [hwk, ek0]; exact fun z => hin ((fin _).mp z))
            rw [e0]
            refine iteF ⟨sm3', ps, hps, ?_⟩
            rw [List.filter_cons, if_neg (by rw [@decide_eq_false _ (Classical.propDecidable _) hin]; simp), List.filter_nil, List.append_nil]
            exact hpp
        · rintro G3 ⟨sm3', ps, hps, hpp⟩
          have lkp := Paired.len hkp
          rw [lkp, List.take_length] at hpp
          refine .inl ⟨D, _, rfl, SqL.of hps, fun x nx => ?_⟩
          have s7 := same_upd (o := HO.tup (ps.map V.ref)) nx
          have hx7 : (upd G3 x (.tup (ps.map V.ref))) x = some (.tup (ps.map V.ref)) := upd_same
          generalize hG7 : upd G3 x (.tup (ps.map V.ref)) = G7 at *
          have fz7 := s7 _ _ (sm3' _ _ fz)
          have tk8 : TK G7 (upd G7 fd (.dT kvs)) := TK.upd fz7 (fun xs e => nomatch e)
          refine ⟨fz7, q _ _ (same_put (smz.trans (sm3'.trans s7)) nfH) (.inr ⟨(hder g).mp hgF, x, Fw, rfl, hW, ps, tk8 _ _ hx7, Paired.mapP hpp fun _ _ z => (z.tk (.same s7)).tk tk8⟩)⟩
      · obtain ⟨as', al, eas⟩ : ∃ as' al, as = as' ++ [al] := ⟨as.dropLast, as.getLast he, (List.dropLast_concat_getLast he).symm⟩
        subst eas
        obtain ⟨Wl', g1, rfl, htp', hl1⟩ := paired_snoc htp
        have lmp : ((as' ++ [al]).map V.ref) = as'.map V.ref ++ [.ref al] := by rw [List.map_append]; rfl
        rw [lmp] at hwt
        refine ⟨_, rfl, true, .inl ⟨_, SqL.of hwt, by simp⟩, iteT ?_⟩
        refine ⟨_, rfl, .inl ⟨rfl, _, SqL.of hwt⟩, wt, _, .ref al, rfl, rfl, hwt, by simp, ?_⟩
        rw [List.dropLast_concat]
        have tk1 : TK G (upd G wt (.lst (as'.map V.ref))) := TK.upd hwt (fun xs e => nomatch e)
        have sm1 : Same H3 (upd G wt (.lst (as'.map V.ref))) := same_put sm nwt3
        have hwt1 : (upd G wt (.lst (as'.map V.ref))) wt = some (.lst (as'.map V.ref)) := upd_same
        have hwd1 : (upd G wt (.lst (as'.map V.ref))) wd = some (.dT wkv) := by rw [upd_ne (Ne.symm nwtd)]; exact hwd
        have hwp1 := Paired.mapP hwp fun _ _ z => z.tk tk1
        have htp1 := Paired.mapP htp' fun _ _ z => z.tk tk1
        have hl11 := hl1.tk tk1
        generalize hG1 : upd G wt (.lst (as'.map V.ref)) = G1 at *
        have hwk := wdr_keys hwp1
        refine ⟨_, rfl, _, rfl, wd, _, rfl, DGet.t hwd1 hl11, _, rfl, ?_⟩
        by_cases hin : g1 ∈ ks (wi W)
        · obtain ⟨v2, ev2⟩ := val_some (kvs := wkv) (k := g1) (by rw [hwk]; exact hin)
          rw [ev2]
          refine iteF ⟨_, ?_, _, _, _, W, Wl', wkv, as', rfl, sm1, hwd1, hwp1, hwt1, htp1, jq.skip hin, by rw [List.length_append, List.length_singleton] at hmu; omega, rfl⟩
          rw [List.length_append, List.length_singleton]; omega
        · rw [valV_iff.mpr (by rw [hwk]; exact hin)]
          refine iteT ?_
          have g1F : g1 ∈ ks (wi Fw) := (jq.wl g1 (by simp)).found hfo hgF
          obtain ⟨v3, ev3⟩ := val_some (kvs := kvs) (k := g1) (by rw [hks]; exact g1F)
          obtain ⟨q0, hq0, e0, o, p, rfl, ho, hp⟩ := frx_at hkp ev3
          have jq2 := jq.take hin hq0 e0
          have le2 := jq2.le
          rw [List.length_append, List.length_singleton] at le2
          have hp1 : OgAt G1 p q0.2 := sm1 _ _ hp
          refine ⟨_, rfl, _, rfl, fd, .ref o, rfl, (by rw [← ev3]; exact DGet.t (sm1 _ _ hkv) hl11), o, _, _, .ref p, rfl, rfl, .of (sm1 _ _ ho), atI_nat (j := 0) rfl, ?_⟩
          refine ⟨p, _, rfl, .of hp1, rfl, _, _, rfl, _, _, rfl, rfl, ?_⟩
          refine ⟨_, rfl, _, rfl, by show 2 ≤ sizeLine; decide, fun t2 nt2 => ?_⟩
          have s6 : Same G1 (upd G1 t2 (.tup [.str (kinS q0.2.1), .int (q0.2.2 : Nat)])) := same_upd nt2
          have ht6 : (upd G1 t2 (.tup [.str (kinS q0.2.1), .int (q0.2.2 : Nat)])) t2 = some (.tup [.str (kinS q0.2.1), .int (q0.2.2 : Nat)]) := upd_same
          generalize hG6 : upd G1 t2 (.tup [.str (kinS q0.2.1), .int (q0.2.2 : Nat)]) = G6 at *
          have hwd6 := s6 _ _ hwd1
          have hnone : valV wkv g1 = none := valV_iff.mpr (by rw [hwk]; exact hin)
          refine ⟨_, rfl, _, rfl, wd, _, rfl, DPut.t hwd6 (s6 _ _ hl11) (Nat.lt_of_le_of_lt (show wkv.length ≤ 100000 by omega) (by decide)), ?_⟩
          have tk7 : TK G6 (upd G6 wd (.dT (putK wkv g1 (.ref t2)))) := TK.upd hwd6 (fun xs e => nomatch e)
          have tk17 : TK G1 (upd G6 wd (.dT (putK wkv g1 (.ref t2)))) := TK.trans (.same s6) tk7
          have sm7 : Same H3 (upd G6 wd (.dT (putK wkv g1 (.ref t2)))) := same_put (sm1.trans s6) nwd
          have hwt7 : (upd G6 wd (.dT (putK wkv g1 (.ref t2)))) wt = some (.lst (as'.map V.ref)) := by rw [upd_ne nwtd]; exact s6 _ _ hwt1
          have hwd7 : (upd G6 wd (.dT (putK wkv g1 (.ref t2)))) wd = some (.dT (wkv ++ [(g1, .ref t2)])) := by rw [upd_same, putK_new _ hnone]
          have hwp7 : Paired (WDr (upd G6 wd (.dT (putK wkv g1 (.ref t2))))) (wkv ++ [(g1, .ref t2)]) (W ++ [q0]) := Paired.snoc (Paired.mapP hwp1 fun _ _ z => z.tk tk17) ⟨e0.symm, t2, rfl, tk7 _ _ ht6⟩
          have htp7 := Paired.mapP htp1 fun _ _ z => z.tk tk17
          generalize hG7 : upd G6 wd (.dT (putK wkv g1 (.ref t2))) = G7 at *
          refine ⟨_, rfl, .inl ⟨rfl, _, SqL.of hwt7⟩, ?_⟩
          rw [List.length_append, List.length_singleton] at hmu
          have kl := kids_len (cs := cs) (q := q0) fun c hc => (hG.cl c hc).1
          have las := Paired.len htp'
          have smH : Same H G7 := sm3.trans sm7
          have fin7 : ∀ (G8 : Hp) (zs : List Addr), Paired (FactAt G8) zs (kids cs q0) → TK G7 G8 → Same H3 G8 → G8 wd = some (.dT (wkv ++ [(g1, .ref t2)])) → G8 wt = some (.lst ((as' ++ zs).map V.ref)) →
              ∃ m', m' < (Wl' ++ [g1]).length + 5 * (Fw.length - W.length) ∧ ∃ y6 y7 y8 W wl wkv as, [some (V.ref r), some (V.ref lt), some (V.ref a), some (V.ref fd), some (V.ref wd), some (V.ref wt), some (V.ref al), some (V.str (kinS q0.2.1)), some (V.int (q0.2.2 : Nat))] =
                [some (V.ref r), some (V.ref lt), some (V.ref a), some (V.ref fd), some (V.ref wd), some (V.ref wt), y6, y7, y8] ∧ Same H3 G8 ∧ G8 wd = some (.dT wkv) ∧ Paired (WDr G8) wkv W ∧ G8 wt = some (.lst (as.map .ref)) ∧ Paired (FactAt G8) as wl ∧ JQ cs Fw g W wl ∧ wl.length + 5 * (Fw.length - W.length) ≤ 5 * Fw.length + 1 ∧ m' = wl.length + 5 * (Fw.length - W.length) := by
            intro G8 zs hz tk8 sm8 h1 h2
            refine ⟨_, ?_, _, _, _, W ++ [q0], Wl' ++ kids cs q0, _, as' ++ zs, rfl, sm8, h1, Paired.mapP hwp7 fun _ _ z => z.tk tk8, h2, paired_app (Paired.mapP htp7 fun _ _ z => FactAt.tk z tk8) hz, jq2, ?_, rfl⟩
            · rw [List.length_append, List.length_append, List.length_append, List.length_singleton, List.length_singleton]; omega
            · rw [List.length_append, List.length_append, List.length_singleton]; omega
          cases hb : q0.2.1 with
          | false =>
            have hb0 : decide (V.str (kinS false) = V.str "clause") = false := decide_eq_false (fun z => by have := V.str.inj z; exact absurd this (by decide +kernel))
            refine ⟨_, rfl, rfl, _, rfl, ?_⟩
            rw [hb0]
            refine iteF ⟨by show 0 ≤ sizeLine; decide, fun t8 nt8 => ?_⟩
            have s8 := same_upd (o := HO.tup []) nt8
            refine ⟨wt, t8, _, [], rfl, rfl, s8 _ _ hwt7, .of upd_same, ?_, ?_⟩
            · rw [List.length_map, las]; exact Nat.le_trans (show Wl'.length + 0 ≤ 600000 by omega) (by decide)
            have ek : kids cs q0 = [] := by unfold kids; rw [hb, if_neg (by simp)]
            have tk8 : TK G7 (upd (upd G7 t8 (.tup [])) wt (.lst (as'.map V.ref ++ []))) := TK.trans (.same s8) (TK.upd (s8 _ _ hwt7) (fun xs e => nomatch e))
            have z := fin7 _ [] (by rw [ek]; exact .nil) tk8 (same_put (sm7.trans s8) nwt3) (by rw [upd_ne (Ne.symm nwtd)]; exact s8 _ _ hwd7) (by rw [upd_same, List.append_nil, List.append_nil])
            rw [hb] at z
            exact z
          | true =>
            have hb0 : decide (V.str (kinS true) = V.str "clause") = true := decide_eq_true (by decide +kernel)
            refine ⟨_, rfl, rfl, _, rfl, ?_⟩
            rw [hb0]
            obtain ⟨i0, hi0⟩ := List.getElem?_of_mem hq0
            have hac : q0.2.2 < cs.length := by
              rcases hfo i0 q0 hi0 with ⟨z, _⟩ | ⟨_, z, _⟩
              · rw [hb] at z; cases z
              · exact z
            obtain ⟨cas, hca, hcp⟩ := id hR.2.1
            obtain ⟨pc, c1, pb, ph, c2, ⟨bas, c3, c4⟩, _⟩ := Paired.at hcp (bo_at hac)
            have c3' := smH _ _ c3
            refine iteT ⟨_, rfl, r, C, dr, _, _, rfl, smH _ _ hR.1, rc.cls, rc.na _ (by simp), rfl, _, rfl, ca, _, _, .ref pc, rfl, rfl, .of (smH _ _ hca), atI_nat (j := q0.2.2) (by rw [List.getElem?_map, c1]; rfl), pc, _, _, .ref pb, rfl, rfl, .of (smH _ _ c2), atI_nat (j := 0) rfl, ?_⟩
            have ek : kids cs q0 = bo cs q0.2.2 := by unfold kids; rw [hb, if_pos rfl]
            have lbs := Paired.len c4
            have tk8 : TK G7 (upd G7 wt (.lst (as'.map V.ref ++ bas.map V.ref))) := TK.upd hwt7 (fun xs e => nomatch e)
            refine ⟨wt, pb, _, _, rfl, rfl, hwt7, .of c3', ?_, ?_⟩
            · rw [List.length_map, List.length_map, las, lbs]
              rw [ek] at kl
              exact Nat.le_trans (show Wl'.length + (bo cs q0.2.2).length ≤ 600000 by omega) (by decide)
            have z := fin7 _ bas (by rw [ek]; exact Paired.mapP c4 fun _ _ y => tk8 _ _ (smH _ _ y)) tk8 (same_put sm7 nwt3) (by rw [upd_ne (Ne.symm nwtd)]; exact hwd7) (by rw [upd_same, List.map_append])
            rw [hb] at z
            exact z
end
end L2.My
end
section
set_option Elab.async false
set_option linter.all false
set_option maxRecDepth 100000
set_option maxHeartbeats 4000000
namespace L2.My
open PySem PySem.Spec PyProof.Rows
abbrev sClo : Stmt := top 30
theorem any_iff {fs : List Fc} {f : Fc} : ((fs.map dF).any fun z => PyData.eqv z (dF f)) = decide (f ∈ fs) := by
  by_cases h : f ∈ fs
  · rw [any_in h, decide_eq_true h]
  · rw [decide_eq_false h, List.any_eq_false]
    intro z hz
    obtain ⟨g, hg, rfl⟩ := List.mem_map.mp hz
    rw [show PyData.eqv (dF g) (dF f) = decide (g = f) from eqv_p g f]
    intro e
    rw [of_decide_eq_true e] at hg
    exact h hg
/-- a closed collection: all that holds, ascending, none twice -/
structure AllOf (cs : List Cz) (gs : List (List Fc)) (ns : List Nat) (fs : List Fc) : Prop where
  up : UpF fs
  nd : fs.Nodup
  mem : ∀ f, f ∈ fs ↔ Der cs (Gof gs ns) none f
  len : fs.length ≤ 100000
def ToldC (H : Hp) (v : V) (cs : List Cz) (gs : List (List Fc)) (ns : List Nat) (f : Fc) : Prop := (Der cs (Gof gs ns) none f ∧ v = .non) ∨ (¬ Der cs (Gof gs ns) none f ∧ ∃ x fs, v = .ref x ∧ FactsAt H x fs ∧ AllOf cs gs ns fs)
def spClo (C : Addr) : Sp := fun vs H Q _ => ∃ (r lt a dr ca ga : Addr) (cs : List Cz) (gs : List (List Fc)) (ns : List Nat) (f : Fc), vs = [.ref r, .ref lt, .ref a] ∧ RuleAt H C r dr ca ga cs gs ∧ GR cs gs ∧ H lt = some (.tup (nI ns)) ∧ LotOk gs ns ∧ FactAt H a f ∧ GF f ∧
  ∀ H' v, Same H H' → ToldC H' v cs gs ns f → Q v H'
section
variable {P : Program} {w : World} {K : PySem.W.Frag} {mg : Str → Option Value} {base : Heap} {C D : Addr}
theorem scCo : FnScope ["rule", "lot", "fact", "found"] ["rule", "lot", "fact"] (defScope sClo) := ⟨rfl, rfl, rfl, by decide +kernel, rfl, by decide +kernel, by decide +kernel⟩
theorem ok_closed {f : Addr} {fd : FuncData} {k : Nat} (F : Fun K "closed" "closed" sClo f fd) (T : Tx mg) (cA : Cal P w K mg base (k + 3) "check_asked" ["rule", "lot", "fact"] (spAsked C)) (cH : Cal P w K mg base (k + 4) "held" ["rule", "lot"] (spHeld C)) :
    FnOk P w K mg base CX0 (k + 5) f fd ["rule", "lot", "fact"] (spClo C) := by
  refine F.ok scCo (fun vs H Q E h => ?_) (fun cdv A outer s H vs Q E hr h => ?_)
  · obtain ⟨r, lt, a, dr, ca, ga, cs, gs, ns, g, rfl, _⟩ := h
    rfl
  · obtain ⟨r, lt, a, dr, ca, ga, cs, gs, ns, g, rfl, hR, hG, hlt, hL, hf, hg, q⟩ := h
    refine ⟨_, (pss_cons (ps_expr (pe_c cA hr (by omega) (by rfl) (pa_cons (pv 0) (pa_cons (pv 1) (pa_cons (pv 2) pa_nil))))) (pss_cons (ps_set (i := 3) scCo.nd rfl (Or.inl rfl) (pe_c cH hr (by omega) (by rfl) (pa_cons (pv 0) (pa_cons (pv 1) pa_nil)))) (pss_one (ps_ret (pe_ifExp (pt_cmpR (op_inD (u65 hr)) (pv 2) (pv 3) rfl) pe_non (pe_tupleOf (by rfl) T.tuple_ (pv 3))))))), ?_⟩
    refine ⟨_, rfl, _, rfl, _, rfl, r, lt, a, dr, ca, ga, cs, gs, ns, g, rfl, hR, hG, hlt, hL, hf, hg, fun H1 s1 => ?_⟩
    refine ⟨_, rfl, _, rfl, r, lt, dr, ca, ga, cs, gs, ns, rfl, hR.same s1, hG, s1 _ _ hlt, hL, fun H2 l s2 hH => ?_⟩
    obtain ⟨as, fs, hl1, hp, hup, hnd, hmem, hlen⟩ := hH
    have s12 := s1.trans s2
    have hgf : ∀ f ∈ fs, GF f := fun f hf => der_gf hG ((hmem f).mp hf)
    refine ⟨_, rfl, _, rfl, dF g, fs.map dF, dpF (s12 _ _ hf), .lst (.of hl1) (dpFs hp), shaped_dF hg, shaped_dFs hgf, _, rfl, ?_⟩
    rw [any_iff]
    refine ite2 (fun e => ?_) (fun e => ?_)
    · exact q _ _ s12 (.inl ⟨(hmem g).mp (of_decide_eq_true e), rfl⟩)
    · refine ⟨_, rfl, .inl ⟨l, _, rfl, SqL.of hl1, fun x nx => ?_⟩⟩
      have s3 := same_upd (o := HO.tup (as.map V.ref)) nx
      exact q _ _ (s12.trans s3) (.inr ⟨fun d => e (decide_eq_true ((hmem g).mpr d)), x, fs, rfl, ⟨as, upd_same, Paired.mapP hp fun _ _ z => s3 _ _ z⟩, hup, hnd, hmem, hlen⟩)
end
end L2.My
end
section
set_option Elab.async false
set_option linter.all false
set_option maxRecDepth 100000
set_option maxHeartbeats 4000000
/-! The verdict on an origin, read off the heap; the program's own judge of it. -/
namespace L2.My
open PySem PySem.Spec PyProof.Rows
abbrev sIsr : Stmt := top 29
def vK : V → Key
  | .int i => .inl i
  | .str z => .inr z
  | _ => .inl 0
/-- the fact at a place -/
def facV (H : Hp) (v : V) : Fc := ((tupOf H v).getD []).map vK
theorem facV_at {H : Hp} {a : Addr} {f : Fc} (h : FactAt H a f) : facV H (.ref a) = f := by
  unfold facV
  rw [tupOf_at h, Option.getD_some, List.map_map]
  have : (vK ∘ kV) = id := by
    funext k
    cases k <;> rfl
  rw [this, List.map_id]
def iV : V → Nat
  | .int i => i.toNat
  | _ => 0
theorem below_int {n : Nat} {v : V} (h : belowV (n : Int) v = true) : ∃ k : Nat, v = .int (k : Int) ∧ k < n ∧ iV v = k := by
  cases v with
  | int i =>
    obtain ⟨h0, h1⟩ := of_decide_eq_true (show decide (0 ≤ i ∧ i < (n : Int)) = true from h)
    refine ⟨i.toNat, ?_, by omega, rfl⟩
    congr 1
    omega
  | _ => exact absurd h (by simp [belowV])
def fromB (H : Hp) (cs : List Cz) (gs : List (List Fc)) (ns : List Nat) (kn : List Fc) (f : Fc) (v : V) : Bool := match tupOf H v with
  | some [.str w, x] => if w = "ground" then belowV (gs.length : Int) x && (decide (iV x ∈ ns) && decide (f ∈ (gs[iV x]?).getD [])) else decide (w = "clause") && (belowV (cs.length : Int) x && (decide (hd cs (iV x) = f) && (bo cs (iV x)).all fun g => decide (g ∈ kn)))
  | _ => false
theorem fromB_bl {b : Addr} {H H' : Hp} {cs : List Cz} {gs : List (List Fc)} {ns : List Nat} {kn : List Fc} {f : Fc} {v : V} (h : Thg b H v) (s : BL [b] H H') : fromB H' cs gs ns kn f v = fromB H cs gs ns kn f v := by
  unfold fromB
  rw [tupOf_bl h s]
theorem fromB_no {H : Hp} {cs : List Cz} {gs : List (List Fc)} {ns : List Nat} {kn : List Fc} {f : Fc} {v : V} (h : tupOf H v = none) : fromB H cs gs ns kn f v = false := by unfold fromB; rw [h]
theorem fromB_len {H : Hp} {cs : List Cz} {gs : List (List Fc)} {ns : List Nat} {kn : List Fc} {f : Fc} {v : V} {xs : List V} (h : tupOf H v = some xs) (n : xs.length ≠ 2) : fromB H cs gs ns kn f v = false := by
  unfold fromB
  rw [h]
  match xs, n with
  | [], _ => rfl
  | [x], _ => cases x <;> rfl
  | [x, y], n => exact absurd rfl n
  | x :: y :: z :: r, _ => cases x <;> rfl
theorem fromB_kind {H : Hp} {cs : List Cz} {gs : List (List Fc)} {ns : List Nat} {kn : List Fc} {f : Fc} {v x y : V} (h : tupOf H v = some [x, y]) (n : ∀ z, x ≠ .str z) : fromB H cs gs ns kn f v = false := by
  unfold fromB
  rw [h]
  cases x with
  | str z => exact absurd rfl (n z)
  | _ => rfl
theorem fromB_at {H : Hp} {cs : List Cz} {gs : List (List Fc)} {ns : List Nat} {kn : List Fc} {f : Fc} {v x : V} {w : Str} (h : tupOf H v = some [.str w, x]) : fromB H cs gs ns kn f v = if w = "ground" then belowV (gs.length : Int) x && (decide (iV x ∈ ns) && decide (f ∈ (gs[iV x]?).getD [])) else decide (w = "clause") && (belowV (cs.length : Int) x && (decide (hd cs (iV x) = f) && (bo cs (iV x)).all fun g => decide (g ∈ kn))) := by
  unfold fromB
  rw [h]
/-- the dict of the lot's grounds -/
def GdAt (H : Hp) (gd : Addr) (gs : List (List Fc)) (ns : List Nat) : Prop := ∃ kvs : List (Key × V), H gd = some (.dK kvs) ∧ (∀ n ∈ ns, ∃ d dk, valV kvs (.inl (n : Int)) = some (.ref d) ∧ H d = some (.dT dk) ∧ ∀ f, f ∈ dk.map (·.1) ↔ f ∈ (gs[n]?).getD []) ∧ ∀ n : Nat, n ∉ ns → valV kvs (.inl (n : Int)) = none
def AhAt (H : Hp) (ah : Addr) (kn : List Fc) : Prop := ∃ kvs : List (Fc × V), H ah = some (.dT kvs) ∧ kvs.map (·.1) = kn
theorem GdAt.same {H H' : Hp} {gd : Addr} {gs : List (List Fc)} {ns : List Nat} (h : GdAt H gd gs ns) (s : Same H H') : GdAt H' gd gs ns := by
  obtain ⟨kvs, h1, h2, h3⟩ := h
  refine ⟨kvs, s _ _ h1, fun n hn => ?_, h3⟩
  obtain ⟨d, dk, e1, e2, e3⟩ := h2 n hn
  exact ⟨d, dk, e1, s _ _ e2, e3⟩
theorem AhAt.same {H H' : Hp} {ah : Addr} {kn : List Fc} (h : AhAt H ah kn) (s : Same H H') : AhAt H' ah kn := by
  obtain ⟨kvs, h1, h2⟩ := h
  exact ⟨kvs, s _ _ h1, h2⟩
theorem val_isSome {kvs : List (Fc × V)} {k : Fc} : (valV kvs k).isSome = decide (k ∈ kvs.map (·.1)) := by
  cases e : valV kvs k with
  | none => rw [decide_eq_false (valV_iff.mp e)]; rfl
  | some v =>
    rw [decide_eq_true]
    · rfl
    · cases Classical.em (k ∈ kvs.map (·.1)) with
      | inl z => exact z
      | inr z => rw [valV_iff.mpr z] at e; cases e
theorem str_or {H : Hp} {v : V} {t : String} (h : ThT H v t) : (∃ z, v = .str z ∧ t = "str") ∨ ((∀ z, v ≠ .str z) ∧ instT t "str" = false) := by
  cases h with
  | str z => exact .inl ⟨z, rfl, rfl⟩
  | _ => exact .inr ⟨fun z e => (nomatch e), (by decide)⟩
theorem two_of {xs : List V} (h : xs.length = 2) : ∃ x y, xs = [x, y] := by
  match xs, h with
  | [x, y], _ => exact ⟨x, y, rfl⟩
def spIsr (C : Addr) : Sp := fun vs H Q _ => ∃ (b r gd ah a dr ca ga : Addr) (cs : List Cz) (gs : List (List Fc)) (ns : List Nat) (kn : List Fc) (f : Fc) (v : V), vs = [.ref r, .ref gd, .ref ah, .ref a, v] ∧ RuleAt H C r dr ca ga cs gs ∧ GR cs gs ∧ GdAt H gd gs ns ∧ AhAt H ah kn ∧ FactAt H a f ∧ GF f ∧ Thg b H v ∧
  ∀ H', Same H H' → Q (.bl (fromB H cs gs ns kn f v)) H'
abbrev nIr : List Str := ["rule", "grounds", "ahead", "fact", "thing", "word", "at", "body", "head", "other"]
section
variable {P : Program} {w : World} {K : PySem.W.Frag} {mg : Str → Option Value} {base : Heap} {C D : Addr}
theorem scIr : FnScope nIr ["rule", "grounds", "ahead", "fact", "thing"] (defScope sIsr) := ⟨rfl, rfl, rfl, by decide +kernel, rfl, by decide +kernel, by decide +kernel⟩
theorem ok_isr {f : Addr} {fd : FuncData} {k : Nat} (F : Fun K "is_reason" "is_reason" sIsr f fd) (T : Tx mg) (rc : RuC K C) (cB : Cal P w K mg base (k + 1) "is_below" ["bound", "thing"] spBelow) : FnOk P w K mg base CX0 (k + 2) f fd ["rule", "grounds", "ahead", "fact", "thing"] (spIsr C) := by
  refine F.ok scIr (fun vs H Q E h => ?_) (fun cdv A outer s H vs Q E hr h => ?_)
  · obtain ⟨b, r, gd, ah, a, dr, ca, ga, cs, gs, ns, kn, g, v, rfl, _⟩ := h
    rfl
  · obtain ⟨b, r, gd, ah, a, dr, ca, ga, cs, gs, ns, kn, g, v, rfl, hR, hG, hgd, hah, hf, hg, hv, q⟩ := h
    refine ⟨_, (pss_cons (ps_if (pt_or (pt_not (pt_val (pe_callB call_isTh (by rfl) T.isi (by decide +kernel) (pa_cons (pv 4) (pa_cons (pe_bltn (v := .ty "tuple") (u := .type "tuple") (by rfl) T.tuple_ (by decide +kernel) rfl) pa_nil))))) (pw_or (pt_cmpR op_ne (pe_callB call_len_seq (by rfl) T.len_ PySem.boot_len (pa_cons (pv 4) pa_nil)) pe_int (nomark _)) (pw_or1 (pt_not (pt_val (pe_callB call_isTh (by rfl) T.isi (by decide +kernel) (pa_cons (pe_ix ix_tup (pv 4) pe_int (fun _ _ => rfl)) (pa_cons (pe_bltn (v := .ty "str") (u := .type "str") (by rfl) T.str_ (by decide +kernel) rfl) pa_nil)))))))) (pss_one (ps_ret pe_bl)) pss_nil) (pss_cons (ps_asg (pv 4) (pg_tup rfl (pgs_cons (pg_name (i := 5) scIr.nd rfl (Or.inl rfl)) (pgs_cons (pg_name (i := 6) scIr.nd rfl (Or.inl rfl)) pgs_nil)))) (pss_cons (ps_if (pt_cmpR op_eq (pv 5) pe_str (nomark _)) (pss_one (ps_ret (pe_and (pe_c cB hr (by omega) (by rfl) (pa_cons (pe_callB call_len_seq (by rfl) T.len_ PySem.boot_len (pa_cons (pe_fld (pv 0) rfl) pa_nil)) (pa_cons (pv 6) pa_nil))) (pe_and (pe_cmp (pc_din (u1 hr) (pv 6) (pv 1))) (pe_one (pe_cmp (pc_din (u1 hr) (pv 3) (pe_dget (u1 hr) (pv 1) (pv 6) (fun _ _ => rfl))))))))) pss_nil) (pss_cons (ps_if (pt_or (pt_cmpR op_ne (pv 5) pe_str (nomark _)) (pw_or1 (pt_not (pt_val (pe_c cB hr (by omega) (by rfl) (pa_cons (pe_callB call_len_seq (by rfl) T.len_ PySem.boot_len (pa_cons (pe_fld (pv 0) rfl) pa_nil)) (pa_cons (pv 6) pa_nil))))))) (pss_one (ps_ret pe_bl)) pss_nil) (pss_cons (ps_asg (pe_ix ix_tup (pe_fld (pv 0) rfl) (pv 6) (fun _ _ => rfl)) (pg_tup rfl (pgs_cons (pg_name (i := 7) scIr.nd rfl (Or.inl rfl)) (pgs_cons (pg_name (i := 8) scIr.nd rfl (Or.inl rfl)) pgs_nil)))) (pss_one (ps_ret (pe_and (pe_cmpR (op_eqD (u64 hr)) (pv 8) (pv 3) rfl) (pe_one (pe_callB (cr_all rfl) (by rfl) T.all_ (by decide +kernel) (pa_cons (pe_lc (own := [("other", 9)]) (g := gName 9) (te := tDIn (tVar 9) (tVar 2)) rfl scIr.nd (pi_tup (pv 7)) (blkOk_by (N := nIr) (sc := defScope sIsr) (by decide +kernel)) (fun _ _ _ _ _ => pg_name (i := 9) scIr.nd rfl (Or.inl rfl)) (fun _ _ _ _ _ => pts_nil) (fun _ _ _ _ _ => (pe_cmp (pc_din (u1 hr) (pv 9) (pv 2))))) pa_nil))))))))))), ?_⟩
    have hq := q
    obtain ⟨gas, hga, hgp⟩ := id hR.2.2
    obtain ⟨cas, hca, hcp⟩ := id hR.2.1
    have lg : (gas.map V.ref).length = gs.length := by rw [List.length_map, Paired.len hgp]
    have lc : (cas.map V.ref).length = cs.length := by rw [List.length_map, Paired.len hcp]
    obtain ⟨t, ht⟩ := hv.th
    refine ⟨_, rfl, _, "tuple", t, rfl, ht, by decide, _, rfl, ?_⟩
    rcases tup_cases ht with ⟨p, xs, rfl, hp, ep, rfl⟩ | ⟨e1, e2⟩
    rotate_left
    · rw [e2]
      rw [fromB_no e1] at hq
      exact iteT (hq _ (Same.refl _))
    refine iteF ⟨_, rfl, p, _, rfl, .inr (.of hp), rfl, _, rfl, ?_⟩
    by_cases h2 : xs.length = 2
    rotate_left
    · have e : decide (V.int (xs.length : Nat) = V.int 2) = false := decide_eq_false fun z => h2 (by have := V.int.inj z; omega)
      rw [e]
      rw [fromB_len ep h2] at hq
      exact iteT (hq _ (Same.refl _))
    obtain ⟨x0, x1, rfl⟩ := two_of h2
    have e : decide (V.int (([x0, x1] : List V).length : Nat) = V.int 2) = true := decide_eq_true rfl
    rw [e]
    obtain ⟨t0, ht0⟩ := ((hv.sub hp).2 x0 (by simp)).th
    have tx1 := (hv.sub hp).2 x1 (by simp)
    refine iteF ⟨_, rfl, p, _, _, x0, rfl, rfl, .of hp, atI_nat (j := 0) rfl, _, "str", t0, rfl, ht0, by decide, _, rfl, ?_⟩
    rcases str_or ht0 with ⟨wz, rfl, rfl⟩ | ⟨e1, e2⟩
    rotate_left
    · rw [e2]
      rw [fromB_kind ep e1] at hq
      exact iteT (hq _ (Same.refl _))
    refine iteF ?_
    rw [fromB_at ep] at hq
    refine ⟨_, rfl, p, _, rfl, .of hp, rfl, _, _, rfl, _, _, rfl, rfl, ?_⟩
    refine ⟨_, rfl, rfl, _, rfl, ?_⟩
    refine ite2 (fun ew => ?_) (fun ew => ?_)
    · have ew' : wz = "ground" := V.str.inj (of_decide_eq_true ew)
      rw [if_pos ew'] at hq
      refine ⟨_, rfl, r, C, dr, _, _, rfl, hR.1, rc.cls, rc.na _ (by simp), rfl, ga, _, rfl, .inr (.of hga), _, rfl, b, _, _, rfl, tx1, _, rfl, ?_⟩
      rw [lg]
      cases hb : belowV (gs.length : Int) x1 with
      | false =>
        rw [hb] at hq
        exact iteF (hq _ (Same.refl _))
      | true =>
        rw [hb] at hq
        obtain ⟨n, rfl, hn, hi⟩ := below_int hb
        rw [hi] at hq
        obtain ⟨kvs, hkv, hin, hout⟩ := id hgd
        refine iteT ⟨_, rfl, _, rfl, gd, _, rfl, DGet.k (k := .inl (n : Int)) hkv, _, rfl, ?_⟩
        by_cases hm : n ∈ ns
        · obtain ⟨d, dk, e1, e2, e3⟩ := hin n hm
          rw [e1]
          rw [decide_eq_true hm] at hq
          refine iteT ⟨_, rfl, _, rfl, _, rfl, gd, .ref d, rfl, (by rw [← e1]; exact DGet.k (k := .inl (n : Int)) hkv), d, _, rfl, DGet.t e2 hf, ?_⟩
          rw [val_isSome]
          have : decide (g ∈ dk.map (·.1)) = decide (g ∈ (gs[n]?).getD []) := decide_eq_decide.mpr (e3 g)
          rw [this]
          exact hq _ (Same.refl _)
        · rw [hout n hm]
          rw [decide_eq_false hm] at hq
          exact iteF (hq _ (Same.refl _))
    · have ew' : wz ≠ "ground" := fun z => ew (by rw [z]; exact decide_eq_true rfl)
      rw [if_neg ew'] at hq
      refine ⟨_, rfl, rfl, _, rfl, ?_⟩
      by_cases ec : wz = "clause"
      rotate_left
      · have e5 : decide (V.str wz = V.str "clause") = false := decide_eq_false fun z => ec (V.str.inj z)
        rw [e5]
        rw [decide_eq_false ec] at hq
        exact iteT (hq _ (Same.refl _))
      have e5 : decide (V.str wz = V.str "clause") = true := decide_eq_true (by rw [ec])
      rw [e5]
      rw [decide_eq_true ec] at hq
      refine iteF ⟨_, rfl, r, C, dr, _, _, rfl, hR.1, rc.cls, rc.na _ (by simp), rfl, ca, _, rfl, .inr (.of hca), _, rfl, b, _, _, rfl, tx1, _, rfl, ?_⟩
      rw [lc]
      cases hb : belowV (cs.length : Int) x1 with
      | false =>
        rw [hb] at hq
        exact iteT (hq _ (Same.refl _))
      | true =>
        rw [hb] at hq
        obtain ⟨n, rfl, hn, hi⟩ := below_int hb
        rw [hi] at hq
        obtain ⟨pc, c1, pb, ph, c2, ⟨bas, c3, c4⟩, c5⟩ := Paired.at hcp (bo_at hn)
        refine iteF ⟨_, rfl, r, C, dr, _, _, rfl, hR.1, rc.cls, rc.na _ (by simp), rfl, _, rfl, ca, _, _, .ref pc, rfl, rfl, .of hca, atI_nat (j := n) (by rw [List.getElem?_map, c1]; rfl), ?_⟩
        refine ⟨pc, _, rfl, .of c2, rfl, _, _, rfl, _, _, rfl, rfl, ?_⟩
        have gh : GF (hd cs n) := (hG.cl _ (List.mem_of_getElem? (bo_at hn))).2.2
        refine ⟨_, rfl, _, rfl, dF (hd cs n), dF g, dpF c5, dpF hf, shaped_dF gh, shaped_dF hg, _, rfl, ?_⟩
        rw [show PyData.eqv (dF (hd cs n)) (dF g) = decide (hd cs n = g) from eqv_p _ _]
        cases hh : decide (hd cs n = g) with
        | false =>
          rw [hh] at hq
          exact iteF (hq _ (Same.refl _))
        | true =>
          rw [hh] at hq
          obtain ⟨kvs, hkv, hks⟩ := id hah
          have lb : bas.length = (bo cs n).length := Paired.len c4
          have lb4 : (bo cs n).length ≤ 4 := (hG.cl _ (List.mem_of_getElem? (bo_at hn))).1
          refine iteT ⟨_, rfl, pb, rfl, ⟨_, .of c3⟩, fun D hD => ?_⟩
          refine lcP walk_tup (fun i => V.bl (decide ((bo cs n).getD i [] ∈ kn))) (by rw [List.length_map]; exact Nat.lt_of_le_of_lt (show bas.length ≤ 4 by omega) (by decide)) hD (fun _ sm => seqT sm (.of c3)) ?_ ?_
          · rintro i y H3 H4 Q' hi sm ⟨rfl, hy⟩ hq2
            obtain ⟨fa, hfa, rfl⟩ := ref_at hy
            obtain ⟨f1, hf1, hff⟩ := Paired.at' c4 hfa
            refine ⟨rfl, _, rfl, _, rfl, ah, _, rfl, DGet.t (sm _ _ hkv) (sm _ _ hff), ?_⟩
            rw [val_isSome, hks]
            have : (bo cs n).getD i [] = f1 := by rw [List.getD_eq_getElem?_getD, hf1]; rfl
            rw [this] at hq2
            exact hq2 _ (Same.refl _)
          · intro H' sm hd2
            refine ⟨D, (List.range (bas.map V.ref).length).map fun i => decide ((bo cs n).getD i [] ∈ kn), rfl, .inl (.inl (by rw [hd2, List.map_map]; rfl)), ?_⟩
            have e6 : (bas.map V.ref).length = (bo cs n).length := by rw [List.length_map, lb]
            rw [e6, range_all (fun f => decide (f ∈ kn)) [] (bo cs n)]
            exact hq _ sm
end
end L2.My
end
section
set_option Elab.async false
set_option linter.all false
set_option maxRecDepth 100000
set_option maxHeartbeats 4000000
/-! The judge of reasons. -/
namespace L2.My
open PySem PySem.Spec PyProof.Rows
abbrev sIrs : Stmt := top 28
/-- t == (), t any tuple -/
def rEqU (K : PySem.W.Frag) : R2 := fun x y H Q => ∃ a b xs, x = .ref a ∧ y = .ref b ∧ SqT K H a xs ∧ SqT K H b [] ∧ Q (.bl (decide (xs.length = 0))) H
theorem op_eqU {X : Cx} (hu : X.A.units < cLine) : OpR X (compareOp .Eq) (rEqU X.K) := by
  intro pins s σ H x y v u Q I rx ry h
  obtain ⟨a, b, xs, rfl, rfl, ha, hb, q⟩ := h
  cases rx
  cases ry
  obtain ⟨its, r1, p1, _⟩ := I.tuple ha
  obtain ⟨its2, r2, p2, _⟩ := I.tuple hb
  cases r2
  have l1 := r1.length
  refine SeqAt.eq_tupleAt (e := fun _ => true) p1 p2 hu (fun j h1 h2 => absurd h2 (by simp)) ⟨.bl _, H, I, rfl, ?_⟩
  have e : ((List.range (min its.toArray.size ([] : List Value).toArray.size)).all (fun _ => true) && its.toArray.size == ([] : List Value).toArray.size) = decide (xs.length = 0) := by
    rw [List.all_eq_true.mpr (fun _ _ => rfl), Bool.true_and, List.size_toArray, List.size_toArray, ← l1]
    by_cases z : xs.length = 0
    · rw [z]; rfl
    · rw [decide_eq_false z]; exact beq_eq_false_iff_ne.mpr z
  rw [e]
  exact q
section
variable {X : Cx}
theorem ps_setDcK {i : Nat} {y : Str} {py : Pos} {kx vx tg iter : Expr} {ifs : List Expr} {scope : Scope} {own : List (Str × Nat)} {pos spos : Pos} {wi : TI} {g : TG} {tt : TT} {tk tv : TE} (hc : X.calm = true) (hN : X.N.Nodup) (hy : X.N[i]? = some y) (hyl : X.env.scope.names.lookup y = some .local)
    (hsw : swapsWith (.DictComp kx vx [⟨tg, iter, ifs, 0⟩] scope pos) (some (.Name y py)) spos.line X.env = pure true) (hi : PI X tg iter wi) (ok : BlkOk X.N X.env.scope scope own)
    (hg : ∀ (s : Shared) (H : Hp) (C : Addr) (cl : List (Str × Addr)) (fp : List Addr), PG (X.blk s H scope (compEnvC scope cl C X.env) fp) tg g) (ht : ∀ (s : Shared) (H : Hp) (C : Addr) (cl : List (Str × Addr)) (fp : List Addr), PTs (X.blk s H scope (compEnvC scope cl C X.env) fp) ifs tt)
    (hk : ∀ (s : Shared) (H : Hp) (C : Addr) (cl : List (Str × Addr)) (fp : List Addr), PE (X.blk s H scope (compEnvC scope cl C X.env) fp) kx tk)
    (he : ∀ (s : Shared) (H : Hp) (C : Addr) (cl : List (Str × Addr)) (fp : List Addr), PE (X.blk s H scope (compEnvC scope cl C X.env) fp) vx tv) (hs : ∀ x, foldedSetIterable iter X.env x = pure x := by intro _; rfl) :
    PS X (.Assign [.Name y py] (.DictComp kx vx [⟨tg, iter, ifs, 0⟩] scope pos) spos) (tAsg (tDc wi g tt tk tv (own.map (·.2))) (gName i)) := by
  refine ⟨fun pins s σ H D I h => ?_⟩
  rw [exec_Assign_Name_used _ _ _ _ hsw]
  refine wpAny_bind (wpAny_standAt (wpAny_bind ?_))
  show wpAny _ X.A (do let _ ← comprehension (.DictComp kx vx [⟨tg, iter, ifs, 0⟩] scope pos) scope X.env (firstIterPos [⟨tg, iter, ifs, 0⟩] pos) newDict false (eval iter X.env) (some (assign (.Name y py) X.env))) _ _ s
  have h : tDc wi g tt tk tv (own.map (·.2)) σ H (fun x H1 => gName i x σ H1 D.nx) := h
  refine wpAny_bind (thn (dc_core (Qf := fun _ s' => SP X pins D .next s') hc hN I hi ok hg ht hk he hs h fun L C s' m H' I' q hn f => ?_) fun _ s' hq => wpAny_pure (wpAny_pure hq))
  show wpAny _ _ (assign (.Name y py) X.env (.ref L)) _ _ _
  refine wpAny_assign_Name (store_ok2 (v := V.ref L) I' hN hy (.inl hyl) rfl (fun s2 I2 ⟨a, sb, ha⟩ => ?_) (.inr hyl))
  obtain ⟨f0, f1, f2, f3, f4, f5⟩ := f
  have haC : C ≠ a := by
    rcases ha with z | z
    · rw [z]; exact f1
    · exact fun e => f4 y a z e.symm
  refine ⟨m, hn.sameBut sb haC, fun h3 sb3 => ?_⟩
  exact ⟨_, H', I2.turned (t' := s2.toks) (fun b o hb e => (sb3.2 b hb).trans e) f0 f1 f3 f4 f5, q⟩
end
def goB (H : Hp) (cs : List Cz) (gs : List (List Fc)) (ns : List Nat) : List Fc → List V → Option (List Fc)
  | kn, [] => some kn
  | kn, v :: r => match tupOf H v with
    | some [x, y] => if factB H x = true ∧ facV H x ∉ kn ∧ fromB H cs gs ns kn (facV H x) y = true then goB H cs gs ns (kn ++ [facV H x]) r else none
    | _ => none
def rsB (H : Hp) (cs : List Cz) (gs : List (List Fc)) (ns : List Nat) (f : Fc) (v : V) : Bool := match tupOf H v with
  | some (x :: r) => match goB H cs gs ns [] (x :: r) with
    | some kn => decide (kn.getLast? = some f)
    | none => false
  | _ => false
section
variable {J : It} {n : Nat} {G : Hp → Prop} {Y : Nat → Hp → V → Hp → Prop}
theorem dcK_it (w : Walk J n G Y) {g : TG} {tt : TT} {tk tv : TE} {vs : List Nat} {σ : St} {H1 : Hp} {D : Addr} {Qd : Hp → Prop} (Pv : Nat → Hp → Prop) (h0 : Pv 0 (upd H1 D (.dK []))) (hG : ∀ i H, i ≤ n → Pv i H → G H)
    (hs : ∀ i x H H', i < n → Pv i H → Y i H x H' → g x (wipe σ vs) H' fun σ2 H2 => wipe σ2 vs = wipe σ vs ∧ tt σ2 H2 fun b H3 =>
      if b = true then tk σ2 H3 fun y H4 => tv σ2 H4 fun z H5 => ∃ kvs k, y = kV k ∧ H5 D = some (.dK kvs) ∧ kvs.length < sizeLine ∧ Pv (i + 1) (upd H5 D (.dK (putK kvs k z))) else Pv (i + 1) H3)
    (hd : ∀ H, Pv n H → Qd H) : ∃ W : Nat → Nat → Hp → Prop, (∃ m, W 0 m (upd H1 D (.dK []))) ∧ ∀ i m H, W i m H →
      (J.stop i H ∧ Qd H) ∨ (J.go i H ∧ ∃ Nx : Hp → Prop, (∀ H', Nx H' → ∃ m', m' < m ∧ W (i + 1) m' H') ∧ ∀ x H', J.yld i H x H' → g x (wipe σ vs) H' fun σ2 H2 => wipe σ2 vs = wipe σ vs ∧ tt σ2 H2 fun b H3 =>
        if b = true then tk σ2 H3 fun y H4 => tv σ2 H4 fun z H5 => ∃ kvs k, y = kV k ∧ H5 D = some (.dK kvs) ∧ kvs.length < sizeLine ∧ Nx (upd H5 D (.dK (putK kvs k z))) else Nx H3) := by
  refine ⟨fun i m H => i + m = n ∧ Pv i H, ⟨n, by omega, h0⟩, fun i m H ⟨e, h⟩ => ?_⟩
  have gi := hG i H (by omega) h
  by_cases hi : i < n
  · exact .inr ⟨w.goes i H hi gi, fun H' => Pv (i + 1) H', fun H' h' => ⟨m - 1, by omega, by omega, h'⟩, fun x H' y => hs i x H H' hi h (w.yields i H x H' hi gi y)⟩
  · obtain rfl : i = n := by omega
    exact .inl ⟨w.stops H gi, hd H h⟩
end
theorem goB_cons {H : Hp} {cs : List Cz} {gs : List (List Fc)} {ns : List Nat} {kn : List Fc} {v : V} {r : List V} : goB H cs gs ns kn (v :: r) = match tupOf H v with
    | some [x, y] => if factB H x = true ∧ facV H x ∉ kn ∧ fromB H cs gs ns kn (facV H x) y = true then goB H cs gs ns (kn ++ [facV H x]) r else none
    | _ => none := by
  conv => lhs; unfold goB
theorem goB_app {H : Hp} {cs : List Cz} {gs : List (List Fc)} {ns : List Nat} : ∀ (l m : List V) (kn : List Fc), goB H cs gs ns kn (l ++ m) = (goB H cs gs ns kn l).bind fun k => goB H cs gs ns k m
  | [], _, _ => rfl
  | v :: l, m, kn => by
    rw [List.cons_append, goB_cons, goB_cons]
    split
    · split
      · exact goB_app l m _
      · rfl
    · rfl
theorem goB_one {H : Hp} {cs : List Cz} {gs : List (List Fc)} {ns : List Nat} {kn : List Fc} {v x y : V} (h : tupOf H v = some [x, y]) : goB H cs gs ns kn [v] = if factB H x = true ∧ facV H x ∉ kn ∧ fromB H cs gs ns kn (facV H x) y = true then some (kn ++ [facV H x]) else none := by
  unfold goB
  rw [h]
  rfl
theorem goB_bad {H : Hp} {cs : List Cz} {gs : List (List Fc)} {ns : List Nat} {kn : List Fc} {v : V} (h : ∀ x y, tupOf H v ≠ some [x, y]) : goB H cs gs ns kn [v] = none := by
  unfold goB
  split
  · rename_i x y e
    exact absurd e (h x y)
  · rfl
theorem goB_take {H : Hp} {cs : List Cz} {gs : List (List Fc)} {ns : List Nat} {xs : List V} {i : Nat} {v : V} {kn : List Fc} (hv : xs[i]? = some v) (h : goB H cs gs ns [] (xs.take i) = some kn) : goB H cs gs ns [] (xs.take (i + 1)) = goB H cs gs ns kn [v] := by
  rw [take_snoc hv, goB_app, h]
  rfl
theorem goB_stop {H : Hp} {cs : List Cz} {gs : List (List Fc)} {ns : List Nat} {xs : List V} {i : Nat} (h : goB H cs gs ns [] (xs.take i) = none) : goB H cs gs ns [] xs = none := by
  rw [← List.take_append_drop i xs, goB_app, h]
  rfl
theorem goB_last {H : Hp} {cs : List Cz} {gs : List (List Fc)} {ns : List Nat} {xs : List V} {v : V} {kn : List Fc} (hl : xs[xs.length - 1]? = some v) (h : goB H cs gs ns [] xs = some kn) : ∃ x y, tupOf H v = some [x, y] ∧ factB H x = true ∧ kn.getLast? = some (facV H x) := by
  have hx : xs = xs.take (xs.length - 1) ++ [v] := by
    have h1 := take_snoc hl
    have hlt := (List.getElem?_eq_some_iff.mp hl).1
    rw [show xs.length - 1 + 1 = xs.length by omega, List.take_length] at h1
    exact h1
  rw [hx, goB_app] at h
  cases e : goB H cs gs ns [] (xs.take (xs.length - 1)) with
  | none => rw [e] at h; cases h
  | some k =>
    rw [e] at h
    have h2 : goB H cs gs ns k [v] = some kn := h
    by_cases z : ∃ x y, tupOf H v = some [x, y]
    · obtain ⟨x, y, ez⟩ := z
      rw [goB_one ez] at h2
      by_cases c : factB H x = true ∧ facV H x ∉ k ∧ fromB H cs gs ns k (facV H x) y = true
      · rw [if_pos c] at h2
        cases h2
        exact ⟨x, y, ez, c.1, by simp⟩
      · rw [if_neg c] at h2; cases h2
    · rw [goB_bad fun x y e => z ⟨x, y, e⟩] at h2; cases h2
theorem rsB_no {H : Hp} {cs : List Cz} {gs : List (List Fc)} {ns : List Nat} {f : Fc} {v : V} (h : tupOf H v = none) : rsB H cs gs ns f v = false := by unfold rsB; rw [h]
theorem rsB_nil {H : Hp} {cs : List Cz} {gs : List (List Fc)} {ns : List Nat} {f : Fc} {v : V} (h : tupOf H v = some []) : rsB H cs gs ns f v = false := by unfold rsB; rw [h]
theorem rsB_bad {H : Hp} {cs : List Cz} {gs : List (List Fc)} {ns : List Nat} {f : Fc} {v : V} {xs : List V} (h : tupOf H v = some xs) (g : goB H cs gs ns [] xs = none) : rsB H cs gs ns f v = false := by
  unfold rsB
  rw [h]
  cases xs with
  | nil => rfl
  | cons x r => show (match goB H cs gs ns [] (x :: r) with | some kn => decide (kn.getLast? = some f) | none => false) = false; rw [g]
theorem rsB_good {H : Hp} {cs : List Cz} {gs : List (List Fc)} {ns : List Nat} {f : Fc} {v : V} {xs : List V} {kn : List Fc} (h : tupOf H v = some xs) (n : xs ≠ []) (g : goB H cs gs ns [] xs = some kn) : rsB H cs gs ns f v = decide (kn.getLast? = some f) := by
  unfold rsB
  rw [h]
  cases xs with
  | nil => exact absurd rfl n
  | cons x r => show (match goB H cs gs ns [] (x :: r) with | some kn => decide (kn.getLast? = some f) | none => false) = _; rw [g]
abbrev nIs5 : List Str := ["rule", "lot", "fact", "thing", "grounds", "ahead", "pair", "at", "other"]
def spIrs (C : Addr) : Sp := fun vs H Q _ => ∃ (b r lt a dr ca ga : Addr) (cs : List Cz) (gs : List (List Fc)) (ns : List Nat) (f : Fc) (v : V), vs = [.ref r, .ref lt, .ref a, v] ∧ RuleAt H C r dr ca ga cs gs ∧ GR cs gs ∧ H lt = some (.tup (nI ns)) ∧ LotOk gs ns ∧ FactAt H a f ∧ GF f ∧ Thg b H v ∧
  ∀ H', Same H H' → Q (.bl (rsB H cs gs ns f v)) H'
section
variable {P : Program} {w : World} {K : PySem.W.Frag} {mg : Str → Option Value} {base : Heap} {C D : Addr}
theorem scI5 : FnScope nIs5 ["rule", "lot", "fact", "thing"] (defScope sIrs) := ⟨rfl, rfl, rfl, by decide +kernel, rfl, by decide +kernel, by decide +kernel⟩
def atSc : Scope := { kind := .function, names := [(".0", .local), ("at", .local), ("rule", .cell)], isGenerator := false, isCoroutine := false, more := [] }
theorem ok_irs {f : Addr} {fd : FuncData} {k : Nat} (F : Fun K "is_reasons" "is_reasons" sIrs f fd) (T : Tx mg) (rc : RuC K C) (cA : Cal P w K mg base (k + 3) "check_asked" ["rule", "lot", "fact"] (spAsked C)) (cF : Cal P w K mg base (k + 3) "is_fact" ["thing"] spFact) (cR : Cal P w K mg base (k + 3) "is_reason" ["rule", "grounds", "ahead", "fact", "thing"] (spIsr C)) : FnOk P w K mg base CX0 (k + 4) f fd ["rule", "lot", "fact", "thing"] (spIrs C) := by
  refine F.ok scI5 (fun vs H Q E h => ?_) (fun cdv A outer s H vs Q E hr h => ?_)
  · obtain ⟨b, r, lt, a, dr, ca, ga, cs, gs, ns, g, v, rfl, _⟩ := h
    rfl
  · obtain ⟨b, r, lt, a, dr, ca, ga, cs, gs, ns, g, v, rfl, hR, hG, hlt, hL, hf, hg, hv, q⟩ := h
    refine ⟨_, (pss_cons (ps_expr (pe_c cA hr (by omega) (by rfl) (pa_cons (pv 0) (pa_cons (pv 1) (pa_cons (pv 2) pa_nil))))) (pss_cons (ps_if (pt_or (pt_not (pt_val (pe_callB call_isTh (by rfl) T.isi (by decide +kernel) (pa_cons (pv 3) (pa_cons (pe_bltn (v := .ty "tuple") (u := .type "tuple") (by rfl) T.tuple_ (by decide +kernel) rfl) pa_nil))))) (pw_or1 (pt_cmpR (op_eqU (lt_un hr)) (pv 3) (pe_tup pa_nil) (nomark _)))) (pss_one (ps_ret pe_bl)) pss_nil) (pss_cons (ps_setDcK (own := [("at", 7)]) (i := 4) (g := gName 7) (tk := tVar 7) (tv := tDcT (iTup K (tOp (rIxT K) (tFld K (tVar 0) "grounds") (tVar 7))) (gName 8) tYes (tVar 8) (tC (.bl true)) [8]) rfl scI5.nd rfl rfl (sw_trueD rfl rfl rfl (by decide +kernel)) (pi_tup (pv 1)) (blkOk_by (N := nIs5) (sc := defScope sIrs) (by decide +kernel)) (fun _ _ _ _ _ => (pg_name (i := 7) scI5.nd rfl (Or.inl rfl))) (fun _ _ _ _ _ => pts_nil) (fun _ _ _ _ _ => (pv 7))
        (fun _ _ _ _ _ => (pe_dcT (own := [("other", 8)]) (g := gName 8) (tk := tVar 8) (tv := tC (.bl true)) (u2 hr) rfl scI5.nd (pi_tup (pe_ix ix_tup (pe_fld (pv 0) rfl) (pv 7) (fun _ _ => rfl))) (blkOk_by (N := nIs5) (sc := atSc) (by decide +kernel)) (fun _ _ _ _ _ => (pg_name (i := 8) scI5.nd rfl (Or.inl rfl))) (fun _ _ _ _ _ => pts_nil) (fun _ _ _ _ _ => (pv 8)) (fun _ _ _ _ _ => pe_bl)))) (pss_cons (ps_set (i := 5) scI5.nd rfl (Or.inl rfl) pe_dnewT) (pss_cons (ps_for PassesOwn.never rfl (pi_tup (pv 3)) (pg_name (i := 6) scI5.nd rfl (Or.inl rfl)) (pss_cons (ps_if (pt_or (pt_not (pt_val (pe_callB call_isTh (by rfl) T.isi (by decide +kernel) (pa_cons (pv 6) (pa_cons (pe_bltn (v := .ty "tuple") (u := .type "tuple") (by rfl) T.tuple_ (by decide +kernel) rfl) pa_nil))))) (pw_or (pt_cmpR op_ne (pe_callB call_len_seq (by rfl) T.len_ PySem.boot_len (pa_cons (pv 6) pa_nil)) pe_int (nomark _)) (pw_or (pt_not (pt_val (pe_c cF hr (by omega) (by rfl) (pa_cons (pe_ix ix_tup (pv 6) pe_int (fun _ _ => rfl)) pa_nil)))) (pw_or1 (pt_cmp (pc_din (u1 hr) (pe_ix ix_tup (pv 6) pe_int (fun _ _ => rfl)) (pv 5))))))) (pss_one (ps_ret pe_bl)) pss_nil) (pss_cons (ps_if (pt_not (pt_val (pe_c cR hr (by omega) (by rfl) (pa_cons (pv 0) (pa_cons (pv 4) (pa_cons (pv 5) (pa_cons (pe_ix ix_tup (pv 6) pe_int (fun _ _ => rfl)) (pa_cons (pe_ix ix_tup (pv 6) pe_int (fun _ _ => rfl)) pa_nil)))))))) (pss_one (ps_ret pe_bl)) pss_nil) (pss_one (ps_dput (u1 hr) (pv 5) (pe_ix ix_tup (pv 6) pe_int (fun _ _ => rfl)) pe_bl rfl))))) (pss_one (ps_ret (pe_cmpR (op_eqD (u64 hr)) (pe_ix ix_tup (pe_ix ix_tup (pv 3) (pe_un un_neg pe_int) (fun _ _ => rfl)) pe_int (fun _ _ => rfl)) (pv 2) rfl)))))))), ?_⟩
    refine ⟨_, rfl, _, rfl, _, rfl, r, lt, a, dr, ca, ga, cs, gs, ns, g, rfl, hR, hG, hlt, hL, hf, hg, fun H1 s1 => ?_⟩
    have ea : ∀ {G : Hp}, Same H G → tupOf G v = tupOf H v := fun s => tupOf_bl hv (.same s)
    have hv1 := hv.same s1
    obtain ⟨t, ht⟩ := hv1.th
    refine ⟨_, rfl, _, "tuple", t, rfl, ht, by decide, _, rfl, ?_⟩
    rcases tup_cases ht with ⟨p, xs, rfl, hp1, ep1, rfl⟩ | ⟨e1, e2⟩
    rotate_left
    · rw [e2]
      have z := q H1 s1
      rw [rsB_no (by rw [← ea s1]; exact e1)] at z
      exact iteT z
    have ep : tupOf H (.ref p) = some xs := by rw [← ea s1]; exact ep1
    obtain ⟨p', ep', hp, hxl, hxs⟩ := tupOf_sub hv ep
    cases ep'
    refine iteF ⟨_, rfl, by show 0 ≤ sizeLine; decide, fun tu ntu => ⟨p, tu, xs, rfl, rfl, .of ((same_upd ntu) _ _ hp1), .of upd_same, _, rfl, ?_⟩⟩
    have s2 : Same H (upd H1 tu (.tup [])) := s1.trans (same_upd ntu)
    generalize hH2 : upd H1 tu (.tup []) = H2 at *
    by_cases h0 : xs.length = 0
    · rw [decide_eq_true h0]
      have z := q H2 s2
      rw [rsB_nil (by rw [ep, List.length_eq_zero_iff.mp h0])] at z
      exact iteT z
    rw [decide_eq_false h0]
    refine iteF ?_
    clear hH2 ntu
    have hR2 := hR.same s2
    obtain ⟨gas, hga, hgp⟩ := id hR2.2.2
    have lns : (nI ns).length = ns.length := by unfold nI; simp
    refine ⟨_, rfl, lt, rfl, ⟨_, .of (s2 _ _ hlt)⟩, fun gd ngd => ?_⟩
    refine dcK_it walk_tup (fun i G => Same H2 G ∧ ∃ kvs : List (Key × V), G gd = some (.dK kvs) ∧ kvs.length ≤ i ∧ (∀ n ∈ ns.take i, ∃ d dk, valV kvs (.inl (n : Int)) = some (.ref d) ∧ G d = some (.dT dk) ∧ d ≠ gd ∧ ∀ f, f ∈ dk.map (·.1) ↔ f ∈ (gs[n]?).getD []) ∧ ∀ n : Nat, n ∉ ns.take i → valV kvs (.inl (n : Int)) = none)
      ⟨same_upd ngd, [], upd_same, Nat.le_refl _, by simp, fun _ _ => rfl⟩ (fun i G _ h => .of (h.1 _ _ (s2 _ _ hlt))) ?_ ?_
    · rintro i v0 G G' hi ⟨sm, kvs, hkv, hkl, hin, hout⟩ ⟨rfl, hv0⟩
      obtain ⟨n, hn, rfl⟩ := nI_at hv0
      have hng := hL.bnd n (List.mem_of_getElem? hn)
      obtain ⟨gf, hgf⟩ : ∃ gf, gs[n]? = some gf := ⟨_, List.getElem?_eq_getElem hng⟩
      obtain ⟨pg, hpg1, fas, hfa, hfp⟩ := Paired.at hgp hgf
      have lf := Paired.len hfp
      have gl := hG.nf gf (List.mem_of_getElem? hgf)
      have smr := sm _ _ hR2.1
      refine ⟨rfl, _, rfl, _, rfl, r, C, dr, _, _, rfl, smr, rc.cls, rc.na _ (by simp), rfl, _, rfl, ga, _, _, .ref pg, rfl, rfl, .of (sm _ _ hga), atI_nat (j := n) (by rw [List.getElem?_map, hpg1]; rfl), pg, rfl, ⟨_, .of (sm _ _ hfa)⟩, fun d nd => ?_⟩
      refine dcP walk_tup (fun j => gf.getD j []) (fun _ => .bl true) (by rw [List.length_map, lf]; exact Nat.lt_of_le_of_lt gl (by decide)) nd (fun H' s => .of (s _ _ (sm _ _ hfa))) ?_ ?_
      · rintro j x G3 G4 Q' hj sm3 ⟨rfl, hx⟩ hq
        obtain ⟨fa, hfa1, rfl⟩ := ref_at hx
        obtain ⟨f1, hf1, hff⟩ := Paired.at' hfp hfa1
        refine ⟨rfl, _, rfl, hq _ fa (Same.refl _) ?_⟩
        have z1 : gf.getD j [] = f1 := by rw [List.getD_eq_getElem?_getD, hf1]; rfl
        rw [z1]
        exact sm3 _ _ (sm _ _ hff)
      · rintro G3 sm3 hd3
        have ndg : d ≠ gd := fun e => by rw [e, hkv] at nd; cases nd
        have hk3 := sm3 _ _ hkv
        have sm23 := sm.trans sm3
        have hkeys : ∀ f, f ∈ (dl (fun j => gf.getD j []) (fun _ => V.bl true) (fas.map V.ref).length).map (·.1) ↔ f ∈ gf := fun f => by
          rw [dl_keys, List.length_map, lf, mem_dk, List.mem_map]
          constructor
          · rintro ⟨j, hj, rfl⟩
            rw [List.mem_range] at hj
            rw [List.getD_eq_getElem?_getD, List.getElem?_eq_getElem hj]
            exact List.getElem_mem hj
          · intro h
            obtain ⟨j, hj, e⟩ := List.mem_iff_getElem.mp h
            exact ⟨j, List.mem_range.mpr hj, by rw [List.getD_eq_getElem?_getD, List.getElem?_eq_getElem hj, e]; rfl⟩
        refine ⟨kvs, .inl (n : Int), rfl, hk3, Nat.lt_of_le_of_lt (show kvs.length ≤ 60 by have := hL.len; rw [lns] at hi; omega) (by decide), same_put sm23 ngd, _, upd_same, Nat.le_trans (length_putK _ _ _) (by omega), fun m hm => ?_, fun m hm => ?_⟩
        · rw [take_snoc hn] at hm
          rw [valV_put]
          by_cases e : m = n
          · subst e
            rw [if_pos rfl]
            exact ⟨d, _, rfl, by rw [upd_ne ndg]; exact hd3, ndg, fun f => by rw [hgf]; exact hkeys f⟩
          · rw [if_neg (fun z => e (by have := Sum.inl.inj z; omega))]
            rcases List.mem_append.mp hm with z | z
            · obtain ⟨d1, dk1, a1, a2, a3, a4⟩ := hin m z
              exact ⟨d1, dk1, a1, by rw [upd_ne a3]; exact sm3 _ _ a2, a3, a4⟩
            · exact absurd (List.mem_singleton.mp z) e
        · rw [take_snoc hn] at hm
          rw [valV_put, if_neg (fun z => hm (List.mem_append_right _ (by have := Sum.inl.inj z; simp; omega)))]
          exact hout m fun z => hm (List.mem_append_left _ z)
    · rintro G ⟨sm, kvs, hkv, hkl, hin, hout⟩
      rw [lns, List.take_length] at hin hout
      have hgd : GdAt G gd gs ns := ⟨kvs, hkv, fun n hn => let ⟨d, dk, a1, a2, _, a4⟩ := hin n hn; ⟨d, dk, a1, a2, a4⟩, hout⟩
      have s3 : Same H G := s2.trans sm
      clear hin hout hkv hkl
      intro ah nah
      refine ⟨_, rfl, p, rfl, ⟨_, .of ((same_upd nah) _ _ (s3 _ _ hp))⟩, ?_⟩
      refine for_it (walk_tup (xs := xs)) (fun i σ G2 => ∃ y6, σ = [some (.ref r), some (.ref lt), some (.ref a), some (.ref p), some (.ref gd), some (.ref ah), y6, none, none] ∧ Same G G2 ∧ ∃ kn, AhAt G2 ah kn ∧ kn.length ≤ i ∧ goB H cs gs ns [] (xs.take i) = some kn) ⟨_, rfl, same_upd nah, [], ⟨[], upd_same, rfl⟩, Nat.le_refl _, rfl⟩ (fun i σ G2 _ h => ?_) ?_ ?_
      · obtain ⟨_, rfl, h, _⟩ := h
        exact .of (h _ _ (s3 _ _ hp))
      · rintro i v0 σ G2 G2' hi ⟨y6, rfl, sm2, kn, hah, hkn, hgo⟩ ⟨rfl, hv0⟩
        have tv := hxs v0 (List.mem_of_getElem? hv0)
        have s4 := s3.trans sm2
        have tvG := tv.same s4
        have fail : goB H cs gs ns kn [v0] = none → ∀ G3, Same H G3 → Q (.bl false) G3 := fun z G3 s => by
          have w := q G3 s
          rw [rsB_bad ep (goB_stop (i := i + 1) (by rw [goB_take hv0 hgo]; exact z))] at w
          exact w
        obtain ⟨t6, ht6⟩ := tvG.th
        refine ⟨_, rfl, _, "tuple", t6, rfl, ht6, by decide, _, rfl, ?_⟩
        rcases tup_cases ht6 with ⟨pp, us, rfl, hpp, epp, rfl⟩ | ⟨e1, e2⟩
        rotate_left
        · rw [e2]
          exact iteT (fail (goB_bad fun x y e => by rw [← tupOf_bl tv (.same s4), e1] at e; cases e) _ s4)
        have epH : tupOf H (.ref pp) = some us := by rw [← tupOf_bl tv (.same s4)]; exact epp
        refine iteF ⟨_, rfl, pp, _, rfl, .inr (.of hpp), rfl, _, rfl, ?_⟩
        by_cases h2 : us.length = 2
        rotate_left
        · have e : decide (V.int (us.length : Nat) = V.int 2) = false := decide_eq_false fun z => h2 (by have := V.int.inj z; omega)
          rw [e]
          exact iteT (fail (goB_bad fun x y e => by rw [epH] at e; cases e; exact h2 rfl) _ s4)
        obtain ⟨x0, x1, rfl⟩ := two_of h2
        have e : decide (V.int (([x0, x1] : List V).length : Nat) = V.int 2) = true := decide_eq_true rfl
        rw [e]
        obtain ⟨pp', epq, hppH, _, tus⟩ := tupOf_sub tv epH
        cases epq
        have tx0 := tus x0 (by simp)
        have tx1 := tus x1 (by simp)
        refine iteF ⟨_, rfl, pp, _, _, x0, rfl, rfl, .of hpp, atI_nat (j := 0) rfl, b, _, rfl, tx0.same s4, fun G3 s5 => ⟨_, rfl, ?_⟩⟩
        rw [factB_bl tx0 (.same s4)]
        cases hfb : factB H x0 with
        | false => exact iteT (fail (by rw [goB_one epH, if_neg (by rw [hfb]; simp)]) _ (s4.trans s5))
        | true =>
          obtain ⟨fa, f1, rfl, hfa, gf1⟩ := fact_of tx0 hfb
          have efv := facV_at hfa
          have s6 := s4.trans s5
          have hah3 := hah.same s5
          obtain ⟨akv, hakv, hak⟩ := id hah3
          refine iteF ⟨_, rfl, pp, _, _, .ref fa, rfl, rfl, .of (s6 _ _ hppH), atI_nat (j := 0) rfl, _, rfl, ah, _, rfl, DGet.t hakv (s6 _ _ hfa), _, rfl, ?_⟩
          rw [val_isSome, hak]
          by_cases hin : f1 ∈ kn
          · rw [decide_eq_true hin]
            exact iteT (fail (by rw [goB_one epH, if_neg (by rw [efv]; exact fun z => z.2.1 hin)]) _ s6)
          rw [decide_eq_false hin]
          refine iteF ⟨_, rfl, _, rfl, _, rfl, _, rfl, pp, _, _, .ref fa, rfl, rfl, .of (s6 _ _ hppH), atI_nat (j := 0) rfl, _, rfl, pp, _, _, x1, rfl, rfl, .of (s6 _ _ hppH), atI_nat (j := 1) rfl, b, r, gd, ah, fa, dr, ca, ga, cs, gs, ns, kn, f1, x1, rfl, hR.same s6, hG, hgd.same (sm2.trans s5), hah3, s6 _ _ hfa, gf1, tx1.same s6, fun G4 s7 => ⟨_, rfl, ?_⟩⟩
          rw [fromB_bl tx1 (.same s6)]
          have s8 := s6.trans s7
          cases hfr : fromB H cs gs ns kn f1 x1 with
          | false => exact iteT (fail (by rw [goB_one epH, if_neg (by rw [efv, hfr]; simp)]) _ s8)
          | true =>
            have lak : akv.length = kn.length := by rw [← hak, List.length_map]
            refine iteF ⟨_, rfl, _, rfl, pp, _, _, .ref fa, rfl, rfl, .of (s8 _ _ hppH), atI_nat (j := 0) rfl, ah, _, rfl, DPut.t (s7 _ _ hakv) (s8 _ _ hfa) (Nat.lt_of_le_of_lt (show akv.length ≤ 5000 by omega) (by decide)), ?_⟩
            refine ⟨_, rfl, same_put (sm2.trans (s5.trans s7)) nah, kn ++ [f1], ⟨_, upd_same, ?_⟩, ?_, ?_⟩
            · rw [keys_putK, hak, if_neg hin]
            · rw [List.length_append, List.length_singleton]; omega
            · rw [goB_take hv0 hgo, goB_one epH, if_pos ⟨hfb, by rw [efv]; exact hin, by rw [efv]; exact hfr⟩, efv]
      · rintro σ G2 ⟨y6, rfl, sm2, kn, hah, hkn, hgo⟩
        rw [List.take_length] at hgo
        have s4 := s3.trans sm2
        have hne : xs ≠ [] := fun z => h0 (by rw [z]; rfl)
        obtain ⟨xl, hxl2⟩ : ∃ xl, xs[xs.length - 1]? = some xl := ⟨_, List.getElem?_eq_getElem (by omega)⟩
        obtain ⟨x0, y0, el, hfb, hlast⟩ := goB_last hxl2 hgo
        have tl := hxs xl (List.mem_of_getElem? hxl2)
        obtain ⟨pl, rfl, hpl, _, tus⟩ := tupOf_sub tl el
        obtain ⟨fa, f1, rfl, hfa, gf1⟩ := fact_of (tus x0 (by simp)) hfb
        have efv := facV_at hfa
        rw [efv] at hlast
        have w := q G2 s4
        rw [rsB_good ep hne hgo, hlast] at w
        refine ⟨_, rfl, _, rfl, p, _, _, .ref pl, rfl, rfl, .of (s4 _ _ hp), ?_, pl, _, _, .ref fa, rfl, rfl, .of (s4 _ _ hpl), atI_nat (j := 0) rfl, _, rfl, dF f1, dF g, dpF (s4 _ _ hfa), dpF (s4 _ _ hf), shaped_dF gf1, shaped_dF hg, ?_⟩
        · have h1 := take_snoc hxl2
          rw [show xs.length - 1 + 1 = xs.length by omega, List.take_length] at h1
          rw [h1]
          exact atI_last _ _
        · rw [show PyData.eqv (dF f1) (dF g) = decide (f1 = g) from eqv_p _ _]
          have z : decide (f1 = g) = decide (some f1 = some g) := decide_eq_decide.mpr ⟨fun h => by rw [h], fun h => Option.some.inj h⟩
          rw [z]
          exact w
end
end L2.My
end
section
set_option Elab.async false
set_option linter.all false
set_option maxRecDepth 100000
set_option maxHeartbeats 4000000
/-! The judge of closed collections. -/
namespace L2.My
open PySem PySem.Spec PyProof.Rows
abbrev sIcl : Stmt := top 31
def clL (cs : List Cz) (gs : List (List Fc)) (ns : List Nat) (f : Fc) (fs : List Fc) : Bool := ascB fs && (!decide (f ∈ fs) && ((gfs gs ns).all fun x => decide (x ∈ fs))) && cs.all fun c => decide (c.2 ∈ fs) || !(c.1.all fun x => decide (x ∈ fs))
def clB (H : Hp) (cs : List Cz) (gs : List (List Fc)) (ns : List Nat) (f : Fc) (v : V) : Bool := match tupOf H v with
  | some xs => xs.all (factB H) && clL cs gs ns f (xs.map (facV H))
  | none => false
theorem facVs {H : Hp} {as : List Addr} {fs : List Fc} (h : Paired (FactAt H) as fs) : (as.map V.ref).map (facV H) = fs := by
  induction h with
  | nil => rfl
  | cons r _ ih => rw [List.map_cons, List.map_cons, ih, facV_at r]
theorem clB_no {H : Hp} {cs : List Cz} {gs : List (List Fc)} {ns : List Nat} {f : Fc} {v : V} (h : tupOf H v = none) : clB H cs gs ns f v = false := by unfold clB; rw [h]
theorem clB_at {H : Hp} {cs : List Cz} {gs : List (List Fc)} {ns : List Nat} {f : Fc} {v : V} {xs : List V} (h : tupOf H v = some xs) : clB H cs gs ns f v = (xs.all (factB H) && clL cs gs ns f (xs.map (facV H))) := by unfold clB; rw [h]
theorem dl_iff {fs : List Fc} {n : Nat} (h : n = fs.length) (f : Fc) : f ∈ (dl (fun j => fs.getD j []) (fun _ => V.bl true) n).map (·.1) ↔ f ∈ fs := by
  subst h
  rw [dl_keys, mem_dk, List.mem_map]
  constructor
  · rintro ⟨j, hj, rfl⟩
    rw [List.mem_range] at hj
    rw [List.getD_eq_getElem?_getD, List.getElem?_eq_getElem hj]
    exact List.getElem_mem hj
  · intro h
    obtain ⟨j, hj, e⟩ := List.mem_iff_getElem.mp h
    exact ⟨j, List.mem_range.mpr hj, by rw [List.getD_eq_getElem?_getD, List.getElem?_eq_getElem hj, e]; rfl⟩
theorem gfs_lenT {gs : List (List Fc)} (h : ∀ g ∈ gs, g.length ≤ 1000) : ∀ {ns : List Nat}, (gfs gs ns).length ≤ 1000 * ns.length
  | [] => Nat.le_refl _
  | n :: ns => by
    unfold gfs
    rw [List.flatMap_cons, List.length_append, List.length_cons]
    have i1 : (gfs gs ns).length ≤ 1000 * ns.length := gfs_lenT h
    unfold gfs at i1
    have : (gs[n]?.getD []).length ≤ 1000 := by
      cases e : gs[n]? with
      | none => exact Nat.zero_le _
      | some g => exact h g (List.mem_of_getElem? e)
    omega
abbrev nIc : List Str := ["rule", "lot", "fact", "thing", "have", "other", "at", "body", "head"]
def spIcl (C : Addr) : Sp := fun vs H Q _ => ∃ (b r lt a dr ca ga : Addr) (cs : List Cz) (gs : List (List Fc)) (ns : List Nat) (f : Fc) (v : V), vs = [.ref r, .ref lt, .ref a, v] ∧ RuleAt H C r dr ca ga cs gs ∧ GR cs gs ∧ H lt = some (.tup (nI ns)) ∧ LotOk gs ns ∧ FactAt H a f ∧ GF f ∧ Thg b H v ∧
  ∀ H', Same H H' → Q (.bl (clB H cs gs ns f v)) H'
def bhSc : Scope := { kind := .function, names := [(".0", .local), ("body", .local), ("head", .local), ("all", .globalImplicit), ("have", .cell)], isGenerator := false, isCoroutine := false, more := [] }
section
variable {P : Program} {w : World} {K : PySem.W.Frag} {mg : Str → Option Value} {base : Heap} {C D : Addr}
theorem scIc : FnScope nIc ["rule", "lot", "fact", "thing"] (defScope sIcl) := ⟨rfl, rfl, rfl, by decide +kernel, rfl, by decide +kernel, by decide +kernel⟩
theorem ok_icl {f : Addr} {fd : FuncData} {k : Nat} (F : Fun K "is_closed" "is_closed" sIcl f fd) (T : Tx mg) (rc : RuC K C) (cA : Cal P w K mg base (k + 3) "check_asked" ["rule", "lot", "fact"] (spAsked C)) (cF : Cal P w K mg base (k + 3) "is_fact" ["thing"] spFact) (cS : Cal P w K mg base (k + 3) "ascends" ["things"] spAsc) : FnOk P w K mg base CX0 (k + 4) f fd ["rule", "lot", "fact", "thing"] (spIcl C) := by
  refine F.ok scIc (fun vs H Q E h => ?_) (fun cdv A outer s H vs Q E hr h => ?_)
  · obtain ⟨b, r, lt, a, dr, ca, ga, cs, gs, ns, g, v, rfl, _⟩ := h
    rfl
  · obtain ⟨b, r, lt, a, dr, ca, ga, cs, gs, ns, g, v, rfl, hR, hG, hlt, hL, hf, hg, hv, q⟩ := h
    refine ⟨_, (pss_cons (ps_expr (pe_c cA hr (by omega) (by rfl) (pa_cons (pv 0) (pa_cons (pv 1) (pa_cons (pv 2) pa_nil))))) (pss_cons (ps_if (pt_or (pt_not (pt_val (pe_callB call_isTh (by rfl) T.isi (by decide +kernel) (pa_cons (pv 3) (pa_cons (pe_bltn (v := .ty "tuple") (u := .type "tuple") (by rfl) T.tuple_ (by decide +kernel) rfl) pa_nil))))) (pw_or (pt_not (pt_val (pe_callB (cr_all rfl) (by rfl) T.all_ (by decide +kernel) (pa_cons (pe_lc (own := [("other", 5)]) (g := gName 5) (te := tCall spFact [] E0 (tCons (tVar 5) tNil)) rfl scIc.nd (pi_tup (pv 3)) (blkOk_by (N := nIc) (sc := defScope sIcl) (by decide +kernel)) (fun _ _ _ _ _ => pg_name (i := 5) scIc.nd rfl (Or.inl rfl)) (fun _ _ _ _ _ => pts_nil) (fun _ _ _ _ _ => (pe_c cF hr (by omega) (by rfl) (pa_cons (pv 5) pa_nil)))) pa_nil)))) (pw_or1 (pt_not (pt_val (pe_c cS hr (by omega) (by rfl) (pa_cons (pv 3) pa_nil))))))) (pss_one (ps_ret pe_bl)) pss_nil) (pss_cons (ps_set (i := 4) scIc.nd rfl (Or.inr rfl) (pe_dcT (own := [("other", 5)]) (g := gName 5) (tk := tVar 5) (tv := tC (.bl true)) (u2 hr) rfl scIc.nd (pi_tup (pv 3)) (blkOk_by (N := nIc) (sc := defScope sIcl) (by decide +kernel)) (fun _ _ _ _ _ => (pg_name (i := 5) scIc.nd rfl (Or.inl rfl))) (fun _ _ _ _ _ => pts_nil) (fun _ _ _ _ _ => (pv 5)) (fun _ _ _ _ _ => pe_bl))) (pss_cons (ps_if (pt_or (pt_cmp (pc_din (u1 hr) (pv 2) (pv 4))) (pw_or1 (pt_not (pt_val (pe_callB (cr_all rfl) (by rfl) T.all_ (by decide +kernel) (pa_cons (pe_lc2 (own := [("at", 6), ("other", 5)]) (vs1 := [5]) (g := gName 6) (g1 := gName 5) (wi1 := iTup K (tOp (rIxT K) (tFld K (tVar 0) "grounds") (tVar 6))) (te := tDIn (tVar 5) (tVar 4)) rfl scIc.nd (pi_tup (pv 1)) (blkOk_by (N := nIc) (sc := defScope sIcl) (by decide +kernel)) (by decide) (fun _ _ _ _ _ => (pg_name (i := 6) scIc.nd rfl (Or.inl rfl))) (fun _ _ _ _ _ => pts_nil) (fun _ _ _ _ _ => pi_tup (pe_ix ix_tup (pe_fld (pv 0) rfl) (pv 6) (fun _ _ => rfl))) (fun _ _ _ _ _ => (pg_name (i := 5) scIc.nd rfl (Or.inl rfl))) (fun _ _ _ _ _ => pts_nil) (fun _ _ _ _ _ => (pe_cmp (pc_din (u1 hr) (pv 5) (pv 4))))) pa_nil)))))) (pss_one (ps_ret pe_bl)) pss_nil) (pss_one (ps_ret (pe_callB (cr_all rfl) (by rfl) T.all_ (by decide +kernel) (pa_cons (pe_lc (own := [("body", 7), ("head", 8)]) (g := gTup K 2 (gCons (gName 7) (gCons (gName 8) gNil))) (te := tOrV (tDIn (tVar 8) (tVar 4)) (tNotV (tCB (rAll K) (tCons (tLc (iTup K (tVar 7)) (gName 5) tYes (tDIn (tVar 5) (tVar 4)) [5]) tNil)))) rfl scIc.nd (pi_tup (pe_fld (pv 0) rfl)) (blkOk_by (N := nIc) (sc := defScope sIcl) (by decide +kernel)) (fun _ _ _ _ _ => (pg_tup rfl (pgs_cons (pg_name (i := 7) scIc.nd rfl (Or.inl rfl)) (pgs_cons (pg_name (i := 8) scIc.nd rfl (Or.inl rfl)) pgs_nil)))) (fun _ _ _ _ _ => pts_nil)
        (fun _ _ _ _ _ => (pe_or (pe_cmp (pc_din (u1 hr) (pv 8) (pv 4))) (pe_one (pe_not (pe_callB (cr_all rfl) (by rfl) T.all_ (by decide +kernel) (pa_cons (pe_lc (own := [("other", 5)]) (g := gName 5) (te := tDIn (tVar 5) (tVar 4)) rfl scIc.nd (pi_tup (pv 7)) (blkOk_by (N := nIc) (sc := bhSc) (by decide +kernel)) (fun _ _ _ _ _ => (pg_name (i := 5) scIc.nd rfl (Or.inl rfl))) (fun _ _ _ _ _ => pts_nil) (fun _ _ _ _ _ => (pe_cmp (pc_din (u1 hr) (pv 5) (pv 4))))) pa_nil))))))) pa_nil)))))))), ?_⟩
    refine ⟨_, rfl, _, rfl, _, rfl, r, lt, a, dr, ca, ga, cs, gs, ns, g, rfl, hR, hG, hlt, hL, hf, hg, fun H1 s1 => ?_⟩
    have ea : ∀ {G : Hp}, Same H G → tupOf G v = tupOf H v := fun s => tupOf_bl hv (.same s)
    obtain ⟨t, ht⟩ := (hv.same s1).th
    refine ⟨_, rfl, _, "tuple", t, rfl, ht, by decide, _, rfl, ?_⟩
    rcases tup_cases ht with ⟨p, xs, rfl, hp1, ep1, rfl⟩ | ⟨e1, e2⟩
    rotate_left
    · rw [e2]
      have z := q H1 s1
      rw [clB_no (by rw [← ea s1]; exact e1)] at z
      exact iteT z
    have ep : tupOf H (.ref p) = some xs := by rw [← ea s1]; exact ep1
    obtain ⟨p', ep', hp, hxl, hxs⟩ := tupOf_sub hv ep
    cases ep'
    rw [clB_at ep] at q
    refine iteF ⟨_, rfl, p, rfl, ⟨_, .of hp1⟩, fun D hD => ?_⟩
    refine lcP walk_tup (fun i => V.bl (factB H (xs.getD i .non))) (Nat.lt_of_le_of_lt hxl (by decide)) hD (fun _ sm => seqT sm (.of hp1)) ?_ ?_
    · rintro i y H3 H4 Q' hi sm ⟨rfl, hy⟩ hq
      have ty := hxs y (List.mem_of_getElem? hy)
      have eg : xs.getD i .non = y := by rw [List.getD_eq_getElem?_getD, hy]; rfl
      rw [eg] at hq
      refine ⟨rfl, _, rfl, b, _, rfl, ty.same (s1.trans sm), fun H5 s5 => ?_⟩
      rw [factB_bl ty (.same (s1.trans sm))]
      exact hq _ s5
    intro H3 sm hd3
    refine ⟨D, (List.range xs.length).map fun i => factB H (xs.getD i .non), rfl, .inl (.inl (by rw [hd3, List.map_map]; rfl)), ?_⟩
    rw [range_all (factB H) V.non xs]
    have s3 := s1.trans sm
    cases ha : xs.all (factB H) with
    | false =>
      rw [ha] at q
      exact ⟨_, rfl, iteT (q _ s3)⟩
    | true =>
      rw [ha, Bool.true_and] at q
      obtain ⟨as, fs, rfl, hfp, hgf⟩ := facts_of hxs ha
      rw [facVs hfp] at q
      have las := Paired.len hfp
      rw [List.length_map] at hxl
      refine ⟨_, rfl, iteF ⟨_, rfl, .inr ⟨p, fs, rfl, ⟨as, s3 _ _ hp, Paired.mapP hfp fun _ _ z => s3 _ _ z⟩, hgf, by omega, fun H4 s4' => ⟨_, rfl, ?_⟩⟩⟩⟩
      have s4 := s3.trans s4'
      unfold clL at q
      cases hb : ascB fs with
      | false =>
        rw [hb] at q
        exact iteT (q _ s4)
      | true =>
        rw [hb, Bool.true_and] at q
        refine iteF ⟨_, rfl, p, rfl, ⟨_, .of (s4 _ _ hp)⟩, fun hv1 nhv => ?_⟩
        clear hd3 hD s4' sm
        refine dcP walk_tup (fun j => fs.getD j []) (fun _ => .bl true) (by rw [List.length_map]; exact Nat.lt_of_le_of_lt hxl (by decide)) nhv (fun H' s => .of (s _ _ (s4 _ _ hp))) ?_ ?_
        · rintro j x G3 G4 Q' hj sm3 ⟨rfl, hx⟩ hq
          obtain ⟨fa, hfa1, rfl⟩ := ref_at hx
          obtain ⟨f1, hf1, hff⟩ := Paired.at' hfp hfa1
          refine ⟨rfl, _, rfl, hq _ fa (Same.refl _) ?_⟩
          have z1 : fs.getD j [] = f1 := by rw [List.getD_eq_getElem?_getD, hf1]; rfl
          rw [z1]
          exact sm3 _ _ (s4 _ _ hff)
        intro H5 s5' hdv
        have s5 := s4.trans s5'
        have hin : ∀ f, (valV (dl (fun j => fs.getD j []) (fun _ => V.bl true) (as.map V.ref).length) f).isSome = decide (f ∈ fs) := fun f => by
          rw [val_isSome]
          exact decide_eq_decide.mpr (dl_iff (by rw [List.length_map, las]) f)
        generalize hkk : dl (fun j => fs.getD j []) (fun _ => V.bl true) (as.map V.ref).length = kk at *
        refine ⟨_, rfl, _, rfl, hv1, _, rfl, DGet.t hdv (s5 _ _ hf), _, rfl, ?_⟩
        rw [hin]
        by_cases hm : g ∈ fs
        · rw [decide_eq_true hm]
          rw [decide_eq_true hm] at q
          exact iteT (q _ s5)
        rw [decide_eq_false hm]
        rw [decide_eq_false hm] at q
        obtain ⟨gas, hga, hgp⟩ := id hR.2.2
        obtain ⟨cas, hca, hcp⟩ := id hR.2.1
        have lns : (nI ns).length = ns.length := by unfold nI; simp
        refine iteF ⟨_, rfl, lt, rfl, ⟨_, .of (s5 _ _ hlt)⟩, fun D2 nD2 => ?_⟩
        refine lc2_it walk_tup (fun i G => Same H5 G ∧ G D2 = some (.lst ((gfs gs (ns.take i)).map fun x => V.bl (decide (x ∈ fs))))) ⟨same_upd nD2, upd_same⟩ (fun i G _ h => .of (h.1 _ _ (s5 _ _ hlt))) ?_ ?_
        · rintro i v0 G G' hi ⟨sm, hw⟩ ⟨rfl, hv0⟩
          obtain ⟨n, hn, rfl⟩ := nI_at hv0
          have hng := hL.bnd n (List.mem_of_getElem? hn)
          obtain ⟨gf, hgf2⟩ : ∃ gf, gs[n]? = some gf := ⟨_, List.getElem?_eq_getElem hng⟩
          obtain ⟨pg, hpg1, fas, hfa, hfp2⟩ := Paired.at hgp hgf2
          have lf := Paired.len hfp2
          have gl := hG.nf gf (List.mem_of_getElem? hgf2)
          have s6 := s5.trans sm
          refine ⟨rfl, _, rfl, r, C, dr, _, _, rfl, s6 _ _ hR.1, rc.cls, rc.na _ (by simp), rfl, _, rfl, ga, _, _, .ref pg, rfl, rfl, .of (s6 _ _ hga), atI_nat (j := n) (by rw [List.getElem?_map, hpg1]; rfl), pg, rfl, ⟨_, .of (s6 _ _ hfa)⟩, ?_⟩
          refine inn_it (walk_tup (xs := fas.map V.ref)) (fun j G3 => Same H5 G3 ∧ G3 D2 = some (.lst ((gfs gs (ns.take i) ++ gf.take j).map fun x => V.bl (decide (x ∈ fs))))) ⟨sm, by rw [List.take_zero, List.append_nil]; exact hw⟩ (fun j G3 _ h => .of (h.1 _ _ (s5 _ _ hfa))) ?_ ?_
          · rintro j v2 G3 G3' hj ⟨sm3, hvs⟩ ⟨rfl, hv2⟩
            obtain ⟨pf, hpf, rfl⟩ := ref_at hv2
            obtain ⟨f0, hf0, hff⟩ := Paired.at' hfp2 hpf
            refine ⟨rfl, _, rfl, _, rfl, hv1, _, rfl, DGet.t (sm3 _ _ hdv) (sm3 _ _ (s5 _ _ hff)), _, hvs, ?_, same_put sm3 nD2, ?_⟩
            · have e2 := gfs_lenT (ns := ns.take i) hG.nf
              have e3 : (ns.take i).length ≤ 60 := Nat.le_trans (by rw [List.length_take]; exact Nat.min_le_right _ _) hL.len
              have e4 : (gf.take j).length ≤ 1000 := Nat.le_trans (by rw [List.length_take]; exact Nat.min_le_right _ _) gl
              rw [List.length_map, List.length_append]
              exact Nat.lt_of_le_of_lt (show _ ≤ 61000 by omega) (by decide)
            · rw [upd_same, hin, take_snoc hf0, ← List.append_assoc, List.map_append (l₂ := [f0])]
              rfl
          · rintro G3 ⟨sm3, hw3⟩
            refine ⟨sm3, ?_⟩
            rw [List.length_map, lf, List.take_length] at hw3
            rw [take_snoc hn]
            have : gfs gs (ns.take i ++ [n]) = gfs gs (ns.take i) ++ gf := by unfold gfs; rw [List.flatMap_append]; simp [hgf2]
            rw [this]
            exact hw3
        rintro G ⟨sm, hw⟩
        rw [lns, List.take_length] at hw
        have s6 := s5.trans sm
        refine ⟨D2, (gfs gs ns).map fun x => decide (x ∈ fs), rfl, .inl (.inl (by rw [hw, List.map_map]; rfl)), ?_⟩
        have e7 : ((gfs gs ns).map fun x => decide (x ∈ fs)).all id = (gfs gs ns).all fun x => decide (x ∈ fs) := by rw [List.all_map]; rfl
        rw [e7]
        cases hc : (gfs gs ns).all fun x => decide (x ∈ fs) with
        | false =>
          rw [hc] at q
          exact ⟨_, rfl, iteT (q _ s6)⟩
        | true =>
          rw [hc] at q
          refine ⟨_, rfl, iteF ?_⟩
          have lcs : (cas.map V.ref).length = cs.length := by rw [List.length_map, Paired.len hcp]
          refine ⟨_, rfl, r, C, dr, _, _, rfl, s6 _ _ hR.1, rc.cls, rc.na _ (by simp), rfl, ca, rfl, ⟨_, .of (s6 _ _ hca)⟩, fun D3 nD3 => ?_⟩
          refine lcP walk_tup (fun i => V.bl (decide ((cs.getD i ([], [])).2 ∈ fs) || !((cs.getD i ([], [])).1.all fun x => decide (x ∈ fs)))) (by rw [lcs]; exact Nat.lt_of_le_of_lt hG.nc (by decide)) nD3 (fun _ sm => seqT sm (.of (s6 _ _ hca))) ?_ ?_
          · rintro i y G3 G4 Q' hi sm3 ⟨rfl, hy⟩ hq
            obtain ⟨pc, hpc, rfl⟩ := ref_at hy
            obtain ⟨c, hc1, pb, ph, c2, ⟨bas, c3, c4⟩, c5⟩ := Paired.at' hcp hpc
            have ec : cs.getD i ([], []) = c := by rw [List.getD_eq_getElem?_getD, hc1]; rfl
            rw [ec] at hq
            have s7 := s6.trans sm3
            have hdv7 := sm3 _ _ (sm _ _ hdv)
            refine ⟨pc, _, rfl, .of (s7 _ _ c2), rfl, _, _, rfl, _, _, rfl, rfl, rfl, _, rfl, _, rfl, hv1, _, rfl, DGet.t hdv7 (s7 _ _ c5), _, rfl, ?_⟩
            rw [hin]
            cases hh : decide (c.2 ∈ fs) with
            | true =>
              rw [hh] at hq
              exact iteT (hq _ (Same.refl _))
            | false =>
              rw [hh, Bool.false_or] at hq
              have lb : bas.length = c.1.length := Paired.len c4
              have lb4 : c.1.length ≤ 4 := (hG.cl _ (List.mem_of_getElem? hc1)).1
              refine iteF ⟨_, rfl, pb, rfl, ⟨_, .of (s7 _ _ c3)⟩, fun D4 nD4 => ?_⟩
              refine lcP walk_tup (fun i => V.bl (decide (c.1.getD i [] ∈ fs))) (by rw [List.length_map]; exact Nat.lt_of_le_of_lt (show bas.length ≤ 4 by omega) (by decide)) nD4 (fun _ sm => seqT sm (.of (s7 _ _ c3))) ?_ ?_
              · rintro j z G5 G6 Q2 hj sm5 ⟨rfl, hz⟩ hq2
                obtain ⟨fa, hfa, rfl⟩ := ref_at hz
                obtain ⟨f1, hf1, hff⟩ := Paired.at' c4 hfa
                refine ⟨rfl, _, rfl, _, rfl, hv1, _, rfl, DGet.t (sm5 _ _ hdv7) (sm5 _ _ (s7 _ _ hff)), ?_⟩
                rw [hin]
                have : c.1.getD j [] = f1 := by rw [List.getD_eq_getElem?_getD, hf1]; rfl
                rw [this] at hq2
                exact hq2 _ (Same.refl _)
              · intro G5 sm5 hd5
                refine ⟨D4, (List.range (bas.map V.ref).length).map fun i => decide (c.1.getD i [] ∈ fs), rfl, .inl (.inl (by rw [hd5, List.map_map]; rfl)), _, rfl, ?_⟩
                have e6 : (bas.map V.ref).length = c.1.length := by rw [List.length_map, lb]
                rw [e6, range_all (fun f => decide (f ∈ fs)) [] c.1]
                exact hq _ sm5
          · intro G3 sm3 hd3
            refine ⟨D3, (List.range (cas.map V.ref).length).map fun i => (decide ((cs.getD i ([], [])).2 ∈ fs) || !((cs.getD i ([], [])).1.all fun x => decide (x ∈ fs))), rfl, .inl (.inl (by rw [hd3, List.map_map]; rfl)), ?_⟩
            rw [lcs, range_all (fun c : Cz => decide (c.2 ∈ fs) || !(c.1.all fun x => decide (x ∈ fs))) ([], []) cs]
            exact q _ (s6.trans sm3)
end
end L2.My
end
section
set_option Elab.async false
set_option linter.all false
set_option maxRecDepth 100000
set_option maxHeartbeats 4000000
namespace L2.My
open PySem PySem.Spec PyProof.Rows
abbrev sLif : Stmt := top 48
abbrev sNum : Stmt := top 49
def spNum : Sp := fun vs H Q _ => ∃ (b : Addr) (n : Int) (v : V), vs = [v, .int n] ∧ Thg b H v ∧ Q (.bl (belowV n v)) H
theorem letters : ("abcdefghijklmnopqrstuvwxyz" : Str).cps.toList = [97, 98, 99, 100, 101, 102, 103, 104, 105, 106, 107, 108, 109, 110, 111, 112, 113, 114, 115, 116, 117, 118, 119, 120, 121, 122] := by decide +kernel
theorem in_letters (c : Nat) : decide (c ∈ ("abcdefghijklmnopqrstuvwxyz" : Str).cps.toList) = signB c := by
  rw [letters]
  unfold signB
  rw [← Bool.decide_and]
  refine decide_eq_decide.mpr ?_
  simp only [List.mem_cons, List.not_mem_nil, or_false]
  omega
section
variable {P : Program} {w : World} {K : PySem.W.Frag} {mg : Str → Option Value} {base : Heap}
theorem scNum : FnScope ["thing", "many"] ["thing", "many"] (defScope sNum) := ⟨rfl, rfl, rfl, by decide +kernel, rfl, by decide +kernel, by decide +kernel⟩
theorem ok_num {f : Addr} {fd : FuncData} {k : Nat} (F : Fun K "_law_is_number" "_law_is_number" sNum f fd) (T : Tx mg) : FnOk P w K mg base CX0 (k + 1) f fd ["thing", "many"] spNum := by
  refine F.ok scNum (fun vs H Q E h => ?_) (fun cdv A outer s H vs Q E hr h => ?_)
  · obtain ⟨b, n, v, rfl, _⟩ := h
    rfl
  · obtain ⟨b, n, v, rfl, hv, q⟩ := h
    obtain ⟨t, ht⟩ := hv.th
    refine ⟨_, (pss_one (ps_ret (pe_and (pe_callB call_isTh (by rfl) T.isi (by decide +kernel) (pa_cons (pv 0) (pa_cons (pe_bltn (v := .ty "int") (u := .type "int") (by rfl) T.int_ (by decide +kernel) rfl) pa_nil))) (pe_and (pe_not (pe_callB call_isTh (by rfl) T.isi (by decide +kernel) (pa_cons (pv 0) (pa_cons (pe_bltn (v := .ty "bool") (u := .type "bool") (by rfl) T.bool_ (by decide +kernel) rfl) pa_nil)))) (pe_one (pe_chain op_le op_lt pe_int (pv 0) (pv 1))))))), ?_⟩
    refine ⟨_, rfl, _, "int", t, rfl, ht, by decide, _, rfl, ?_⟩
    rcases int_cases (n := n) ht with ⟨i, rfl, rfl⟩ | ⟨c, rfl, rfl⟩ | ⟨e1, e2⟩
    · refine iteT ⟨_, rfl, _, "bool", _, rfl, .int i, by decide, _, rfl, _, rfl, iteT ?_⟩
      refine ⟨_, rfl, _, _, rfl, rfl, _, rfl, ?_⟩
      by_cases h0 : 0 ≤ i
      · rw [decide_eq_true h0]
        refine iteT ⟨_, rfl, _, _, rfl, rfl, ?_⟩
        have e : belowV n (.int i) = decide (i < n) := by
          show decide (0 ≤ i ∧ i < n) = _
          simp [h0]
        rw [e] at q
        exact q
      · rw [decide_eq_false h0]
        refine iteF ?_
        have e : belowV n (.int i) = false := decide_eq_false fun z => h0 z.1
        rw [e] at q
        exact q
    · exact iteT ⟨_, rfl, _, "bool", _, rfl, .bl c, by decide, _, rfl, _, rfl, iteF q⟩
    · rw [e2]
      rw [e1] at q
      exact iteF q
theorem scLif : FnScope ["thing", "sign", "one"] ["thing"] (defScope sLif) := ⟨rfl, rfl, rfl, by decide +kernel, rfl, by decide +kernel, by decide +kernel⟩
theorem ok_lif {f : Addr} {fd : FuncData} {k : Nat} (F : Fun K "_law_is_fact" "_law_is_fact" sLif f fd) (T : Tx mg) (cB : Cal P w K mg base (k + 1) "_law_is_number" ["thing", "many"] spNum) : FnOk P w K mg base CX0 (k + 2) f fd ["thing"] spFact := by
  refine F.ok scLif (fun vs H Q E h => ?_) (fun cdv A outer s H vs Q E hr h => ?_)
  · obtain ⟨b, v, rfl, _⟩ := h
    rfl
  · obtain ⟨b, v, rfl, hv, q⟩ := h
    obtain ⟨t, ht⟩ := hv.th
    refine ⟨_, (pss_cons (ps_if (pt_or (pt_not (pt_val (pe_callB call_isTh (by rfl) T.isi (by decide +kernel) (pa_cons (pv 0) (pa_cons (pe_bltn (v := .ty "tuple") (u := .type "tuple") (by rfl) T.tuple_ (by decide +kernel) rfl) pa_nil))))) (pw_or (pt_not (pt_chain op_le op_le pe_int (pe_callB call_len_seq (by rfl) T.len_ PySem.boot_len (pa_cons (pv 0) pa_nil)) pe_int)) (pw_or1 (pt_not (pt_val (pe_callB call_isTh (by rfl) T.isi (by decide +kernel) (pa_cons (pe_ix ix_tup (pv 0) pe_int (fun _ _ => rfl)) (pa_cons (pe_bltn (v := .ty "str") (u := .type "str") (by rfl) T.str_ (by decide +kernel) rfl) pa_nil)))))))) (pss_one (ps_ret pe_bl)) pss_nil) (pss_cons (ps_if (pt_or (pt_not (pt_chain op_le op_le pe_int (pe_callB call_len_str (by rfl) T.len_ PySem.boot_len (pa_cons (pe_ix ix_tup (pv 0) pe_int (fun _ _ => rfl)) pa_nil)) pe_int)) (pw_or1 (pt_not (pt_val (pe_callB (cr_all rfl) (by rfl) T.all_ (by decide +kernel) (pa_cons (pe_lc (own := [("sign", 1)]) (g := gName 1) (te := tOp rInS (tVar 1) (tC (.str "abcdefghijklmnopqrstuvwxyz"))) rfl scLif.nd (pi_str (pe_ix ix_tup (pv 0) pe_int (fun _ _ => rfl))) (blkOk_by (N := ["thing", "sign", "one"]) (sc := defScope sLif) (by decide +kernel)) (fun _ _ _ _ _ => pg_name (i := 1) scLif.nd rfl (Or.inl rfl)) (fun _ _ _ _ _ => pts_nil) (fun _ _ _ _ _ => (pe_cmpR op_inS (pv 1) pe_str rfl))) pa_nil)))))) (pss_one (ps_ret pe_bl)) pss_nil) (pss_one (ps_ret (pe_callB (cr_all rfl) (by rfl) T.all_ (by decide +kernel) (pa_cons (pe_lc (own := [("one", 2)]) (g := gName 2) rfl scLif.nd (pi_tup (pe_slice sl_tup (pv 0) (po_some pe_int) po_none)) (blkOk_by (N := ["thing", "sign", "one"]) (sc := defScope sLif) (by decide +kernel)) (fun _ _ _ _ _ => pg_name (i := 2) scLif.nd rfl (Or.inl rfl)) (fun _ _ _ _ _ => pts_nil) (fun _ _ _ _ _ => (pe_c cB hr (by omega) (by rfl) (pa_cons (pv 2) (pa_cons (pe_op op_pow pe_int pe_int) pa_nil))))) pa_nil)))))), ?_⟩
    refine ⟨_, rfl, _, "tuple", t, rfl, ht, by decide, _, rfl, ?_⟩
    rcases tup_cases ht with ⟨a, ys, rfl, ha, et, rfl⟩ | ⟨e1, e2⟩
    · obtain ⟨hl, hs⟩ := hv.sub ha
      refine iteF ⟨_, rfl, _, _, rfl, .inr (.of ha), _, _, rfl, rfl, _, rfl, ?_⟩
      cases ys with
      | nil =>
        rw [factB_nil et] at q
        rw [decide_eq_false (by simp)]
        exact iteF ⟨_, rfl, iteT (q _ (Same.refl _))⟩
      | cons x xs =>
        rw [decide_eq_true (by simp only [List.length_cons]; omega)]
        refine iteT ⟨_, _, rfl, rfl, _, rfl, ?_⟩
        rw [factB_at et] at q
        by_cases h4 : xs.length ≤ 4
        · rw [decide_eq_true (by simp only [List.length_cons]; omega)]
          rw [decide_eq_true h4, Bool.true_and] at q
          refine iteF ?_
          have hx := hs x (by simp)
          obtain ⟨tx, htx⟩ := hx.th
          refine ⟨_, rfl, a, _, _, x, rfl, rfl, .of ha, atI_nat (j := 0) rfl, _, "str", tx, rfl, htx, by decide, _, rfl, ?_⟩
          rcases str_cases htx with ⟨z, rfl, rfl⟩ | ⟨e1, e2⟩
          · have ls : z.length ≤ sizeLine := Nat.le_trans hx.len (by decide)
            refine iteF ?_
            refine ⟨_, rfl, a, _, _, .str z, rfl, rfl, .of ha, atI_nat (j := 0) rfl, z, rfl, ls, _, _, rfl, rfl, _, rfl, ?_⟩
            by_cases h1 : 1 ≤ z.length
            · rw [decide_eq_true (by omega)]
              refine iteT ⟨_, _, rfl, rfl, _, rfl, ?_⟩
              by_cases h2 : z.length ≤ 12
              · rw [decide_eq_true (by omega)]
                refine iteF ?_
                refine ⟨_, rfl, a, _, _, .str z, rfl, rfl, .of ha, atI_nat (j := 0) rfl, _, rfl, fun D hD => ?_⟩
                refine lcP walk_str (fun i => V.bl (signB (z.cps.toList.getD i 0))) (Nat.lt_of_le_of_lt (show z.cps.size ≤ 12 from h2) (by decide)) hD (fun _ _ => trivial) ?_ ?_
                · rintro i y H1 H2 Q' hi sm ⟨rfl, c, hc, rfl⟩ hq
                  have hcm : z.cps.toList.getD i 0 = c := by
                    rw [← Array.getElem?_toList] at hc
                    rw [List.getD_eq_getElem?_getD, hc]
                    rfl
                  rw [hcm, ← in_letters] at hq
                  exact ⟨rfl, _, rfl, c, _, rfl, rfl, hq _ (Same.refl _)⟩
                · intro H1 s1 hd
                  refine ⟨D, (List.range z.cps.size).map fun i => signB (z.cps.toList.getD i 0), rfl, .inl (.inl (by rw [hd, List.map_map]; rfl)), ?_⟩
                  have e := range_all signB 0 z.cps.toList
                  rw [Array.length_toList] at e
                  rw [e]
                  have e4 : wordV (.str z) = z.cps.toList.all signB := by
                    show wordB z = _
                    unfold wordB
                    rw [decide_eq_true h1, decide_eq_true h2]
                    rfl
                  rw [e4] at q
                  cases hw : z.cps.toList.all signB with
                  | false =>
                    rw [hw] at q
                    exact ⟨_, rfl, iteT (q _ s1)⟩
                  | true =>
                    rw [hw, Bool.true_and] at q
                    refine ⟨_, rfl, iteF ?_⟩
                    refine ⟨_, rfl, _, rfl, a, _, rfl, .of (s1 _ _ ha), ?_, fun p np => ?_⟩
                    · intro hh
                      have := hh.1
                      rw [sIx1, List.length_cons] at this
                      omega
                    · rw [cutTail]
                      have s2 : Same H1 (upd H1 p (.tup xs)) := same_upd np
                      refine ⟨p, rfl, ⟨_, .of upd_same⟩, fun D hD => ?_⟩
                      refine lcP walk_tup (fun i => V.bl (belowV 1000000000000 (xs.getD i .non))) (Nat.lt_of_le_of_lt h4 (by decide)) hD (fun _ sm => seqT sm (.of upd_same)) ?_ ?_
                      · rintro i y H3 H4 Q' hi' sm ⟨rfl, hy⟩ hq
                        have ey : xs.getD i .non = y := by rw [List.getD_eq_getElem?_getD, hy]; rfl
                        rw [ey] at hq
                        have hy2 : y ∈ V.str z :: xs := List.mem_cons_of_mem _ (List.mem_of_getElem? hy)
                        exact ⟨rfl, _, rfl, _, _, rfl, rfl, ⟨by decide, by decide, by decide⟩, b, _, y, rfl, (hs y hy2).same (s1.trans (s2.trans sm)), hq _ (Same.refl _)⟩
                      · intro H' sm hd
                        refine ⟨D, (List.range xs.length).map fun i => belowV 1000000000000 (xs.getD i .non), rfl, .inl (.inl (by rw [hd, List.map_map]; rfl)), ?_⟩
                        rw [range_all (belowV 1000000000000) V.non xs]
                        exact q _ (s1.trans (s2.trans sm))
              · rw [decide_eq_false (by omega)]
                have e4 : wordV (.str z) = false := by
                  show wordB z = _
                  unfold wordB
                  rw [decide_eq_false h2]
                  simp
                rw [e4, Bool.false_and] at q
                exact iteT (q _ (Same.refl _))
            · rw [decide_eq_false (by omega)]
              have e4 : wordV (.str z) = false := by
                show wordB z = _
                unfold wordB
                rw [decide_eq_false h1]
                rfl
              rw [e4, Bool.false_and] at q
              exact iteF ⟨_, rfl, iteT (q _ (Same.refl _))⟩
          · rw [e2]
            rw [e1, Bool.false_and] at q
            exact iteT (q _ (Same.refl _))
        · rw [decide_eq_false (by simp only [List.length_cons]; omega)]
          rw [decide_eq_false h4, Bool.false_and] at q
          exact iteT (q _ (Same.refl _))
    · rw [e2]
      rw [factB_no e1] at q
      exact iteT (q _ (Same.refl _))
end
end L2.My
end
section
set_option Elab.async false
set_option linter.all false
set_option maxRecDepth 100000
set_option maxHeartbeats 4000000
/-! The law's own judge of an origin: the same verdict. -/
namespace L2.My
open PySem PySem.Spec PyProof.Rows
abbrev sLfr : Stmt := top 50
def KnAt (H : Hp) (l : Addr) (kn : List Fc) : Prop := ∃ as : List Addr, H l = some (.lst (as.map .ref)) ∧ Paired (FactAt H) as kn ∧ ∀ f ∈ kn, GF f
theorem KnAt.same {H H' : Hp} {l : Addr} {kn : List Fc} (h : KnAt H l kn) (s : Same H H') : KnAt H' l kn := by
  obtain ⟨as, h1, h2, h3⟩ := h
  exact ⟨as, s _ _ h1, Paired.mapP h2 fun _ _ z => s _ _ z, h3⟩
def PtAt (H : Hp) (p : Addr) (cs : List Cz) (gs : List (List Fc)) : Prop := ∃ ca ga, H p = some (.tup [.ref ca, .ref ga]) ∧ ClsAt H ca cs ∧ GrsAt H ga gs
theorem PtAt.same {H H' : Hp} {p : Addr} {cs : List Cz} {gs : List (List Fc)} (h : PtAt H p cs gs) (s : Same H H') : PtAt H' p cs gs := by
  obtain ⟨ca, ga, h1, h2, h3⟩ := h
  exact ⟨ca, ga, s _ _ h1, h2.tk (.same s), h3.tk (.same s)⟩
theorem dpNs {K : PySem.W.Frag} {H : Hp} : ∀ ns : List Nat, DpAll K H (nI ns) (ns.map fun (n : Nat) => PyData.int n)
  | [] => .nil
  | n :: ns => .cons (.int n) (dpNs ns)
theorem any_ns {ns : List Nat} {n : Nat} : ((ns.map fun (n : Nat) => PyData.int n).any fun z => PyData.eqv z (.int (n : Nat))) = decide (n ∈ ns) := by
  induction ns with
  | nil => rfl
  | cons m ns ih =>
    rw [List.map_cons, List.any_cons, ih]
    have e : PyData.eqv (.int (m : Nat)) (.int (n : Nat)) = decide (m = n) := by
      have : PyData.eqv (.int (m : Nat)) (.int (n : Nat)) = ((m : Int) == (n : Int)) := by rw [PyData.eqv]
      rw [this]
      by_cases h : m = n
      · subst h; simp
      · rw [decide_eq_false h]; exact beq_eq_false_iff_ne.mpr (by omega)
    rw [e]
    by_cases h : m = n
    · subst h; simp
    · have h' : n ≠ m := fun z => h z.symm
      simp [h, h']
theorem shaped_ns (ns : List Nat) : SeqAt.shaped (.tuple (ns.map fun (n : Nat) => PyData.int n)) = true := by
  have h1 : PyData.depthAll (ns.map fun (n : Nat) => PyData.int n) ≤ 0 := dep_map (n := 0) (fun x => by simp [PyData.depth]) ns
  have h2 : PyData.canLayAll0 (ns.map fun (n : Nat) => PyData.int n) = true := can_map fun x _ => by simp [PyData.canLay0]
  simp only [SeqAt.shaped, PyData.canLay0, h2, Bool.true_and, PyData.depth]
  exact decide_eq_true (by omega)
theorem shaped_int (n : Int) : SeqAt.shaped (.int n) = true := by
  simp only [SeqAt.shaped, PyData.canLay0, Bool.true_and, PyData.depth]
  exact decide_eq_true (by omega)
theorem shaped_fs {fs : List Fc} (h : ∀ f ∈ fs, GF f) : SeqAt.shaped (.tuple (fs.map dF)) = true := by
  have h1 : PyData.depthAll (fs.map dF) ≤ 1 := dep_map (n := 1) dep_dF fs
  have h2 : PyData.canLayAll0 (fs.map dF) = true := can_map fun x hx => can_dF (h x hx)
  simp only [SeqAt.shaped, PyData.canLay0, h2, Bool.true_and, PyData.depth]
  exact decide_eq_true (by omega)
def spLfr : Sp := fun vs H Q _ => ∃ (b p lt a kl : Addr) (cs : List Cz) (gs : List (List Fc)) (ns : List Nat) (kn : List Fc) (f : Fc) (v : V), vs = [.ref p, .ref lt, .ref a, v, .ref kl] ∧ PtAt H p cs gs ∧ GR cs gs ∧ H lt = some (.tup (nI ns)) ∧ FactAt H a f ∧ GF f ∧ Thg b H v ∧ KnAt H kl kn ∧
  ∀ H', Same H H' → Q (.bl (fromB H cs gs ns kn f v)) H'
abbrev nLr : List Str := ["parts", "lot", "one", "told", "known", "body", "head", "other"]
section
variable {P : Program} {w : World} {K : PySem.W.Frag} {mg : Str → Option Value} {base : Heap} {C D : Addr}
theorem scLr : FnScope nLr ["parts", "lot", "one", "told", "known"] (defScope sLfr) := ⟨rfl, rfl, rfl, by decide +kernel, rfl, by decide +kernel, by decide +kernel⟩
theorem ok_lfr {f : Addr} {fd : FuncData} {k : Nat} (F : Fun K "_law_is_from" "_law_is_from" sLfr f fd) (T : Tx mg) (cN : Cal P w K mg base (k + 1) "_law_is_number" ["thing", "many"] spNum) : FnOk P w K mg base CX0 (k + 2) f fd ["parts", "lot", "one", "told", "known"] spLfr := by
  refine F.ok scLr (fun vs H Q E h => ?_) (fun cdv A outer s H vs Q E hr h => ?_)
  · obtain ⟨b, p, lt, a, kl, cs, gs, ns, kn, g, v, rfl, _⟩ := h
    rfl
  · obtain ⟨b, p, lt, a, kl, cs, gs, ns, kn, g, v, rfl, ⟨ca, ga, hp, hR1, hR2⟩, hG, hlt, hf, hg, hv, ⟨kas, hk1, hk2, hk3⟩, q⟩ := h
    refine ⟨_, (pss_cons (ps_if (pt_or (pt_not (pt_val (pe_callB call_isTh (by rfl) T.isi (by decide +kernel) (pa_cons (pv 3) (pa_cons (pe_bltn (v := .ty "tuple") (u := .type "tuple") (by rfl) T.tuple_ (by decide +kernel) rfl) pa_nil))))) (pw_or (pt_cmpR op_ne (pe_callB call_len_seq (by rfl) T.len_ PySem.boot_len (pa_cons (pv 3) pa_nil)) pe_int (nomark _)) (pw_or1 (pt_not (pt_val (pe_callB call_isTh (by rfl) T.isi (by decide +kernel) (pa_cons (pe_ix ix_tup (pv 3) pe_int (fun _ _ => rfl)) (pa_cons (pe_bltn (v := .ty "str") (u := .type "str") (by rfl) T.str_ (by decide +kernel) rfl) pa_nil)))))))) (pss_one (ps_ret pe_bl)) pss_nil) (pss_cons (ps_if (pt_cmpR op_eq (pe_ix ix_tup (pv 3) pe_int (fun _ _ => rfl)) pe_str (nomark _)) (pss_one (ps_ret (pe_and (pe_c cN hr (by omega) (by rfl) (pa_cons (pe_ix ix_tup (pv 3) pe_int (fun _ _ => rfl)) (pa_cons (pe_callB call_len_seq (by rfl) T.len_ PySem.boot_len (pa_cons (pe_ix ix_tup (pv 0) pe_int (fun _ _ => rfl)) pa_nil)) pa_nil))) (pe_and (pe_cmpR (op_inTD (u65 hr)) (pe_ix ix_tup (pv 3) pe_int (fun _ _ => rfl)) (pv 1) rfl) (pe_one (pe_cmpR (op_inTD (u65 hr)) (pv 2) (pe_ix ix_tup (pe_ix ix_tup (pv 0) pe_int (fun _ _ => rfl)) (pe_ix ix_tup (pv 3) pe_int (fun _ _ => rfl)) (fun _ _ => rfl)) rfl)))))) pss_nil) (pss_cons (ps_if (pt_or (pt_cmpR op_ne (pe_ix ix_tup (pv 3) pe_int (fun _ _ => rfl)) pe_str (nomark _)) (pw_or1 (pt_not (pt_val (pe_c cN hr (by omega) (by rfl) (pa_cons (pe_ix ix_tup (pv 3) pe_int (fun _ _ => rfl)) (pa_cons (pe_callB call_len_seq (by rfl) T.len_ PySem.boot_len (pa_cons (pe_ix ix_tup (pv 0) pe_int (fun _ _ => rfl)) pa_nil)) pa_nil))))))) (pss_one (ps_ret pe_bl)) pss_nil) (pss_cons (ps_asg (pe_ix ix_tup (pe_ix ix_tup (pv 0) pe_int (fun _ _ => rfl)) (pe_ix ix_tup (pv 3) pe_int (fun _ _ => rfl)) (fun _ _ => rfl)) (pg_tup rfl (pgs_cons (pg_name (i := 5) scLr.nd rfl (Or.inl rfl)) (pgs_cons (pg_name (i := 6) scLr.nd rfl (Or.inl rfl)) pgs_nil)))) (pss_one (ps_ret (pe_and (pe_cmpR (op_eqD (u64 hr)) (pv 6) (pv 2) rfl) (pe_one (pe_callB (cr_all rfl) (by rfl) T.all_ (by decide +kernel) (pa_cons (pe_lc (own := [("other", 7)]) (g := gName 7) (te := tOp (rInD K) (tVar 7) (tVar 4)) rfl scLr.nd (pi_tup (pv 5)) (blkOk_by (N := nLr) (sc := defScope sLfr) (by decide +kernel)) (fun _ _ _ _ _ => pg_name (i := 7) scLr.nd rfl (Or.inl rfl)) (fun _ _ _ _ _ => pts_nil) (fun _ _ _ _ _ => (pe_cmpR (op_inD (u65 hr)) (pv 7) (pv 4) rfl))) pa_nil)))))))))), ?_⟩
    have hq := q
    obtain ⟨gas, hga, hgp⟩ := id hR2
    obtain ⟨cas, hca, hcp⟩ := id hR1
    have lg : (gas.map V.ref).length = gs.length := by rw [List.length_map, Paired.len hgp]
    have lc : (cas.map V.ref).length = cs.length := by rw [List.length_map, Paired.len hcp]
    obtain ⟨t, ht⟩ := hv.th
    refine ⟨_, rfl, _, "tuple", t, rfl, ht, by decide, _, rfl, ?_⟩
    rcases tup_cases ht with ⟨pt, xs, rfl, hpt, ep, rfl⟩ | ⟨e1, e2⟩
    rotate_left
    · rw [e2]
      rw [fromB_no e1] at hq
      exact iteT (hq _ (Same.refl _))
    refine iteF ⟨_, rfl, pt, _, rfl, .inr (.of hpt), rfl, _, rfl, ?_⟩
    by_cases h2 : xs.length = 2
    rotate_left
    · have e : decide (V.int (xs.length : Nat) = V.int 2) = false := decide_eq_false fun z => h2 (by have := V.int.inj z; omega)
      rw [e]
      rw [fromB_len ep h2] at hq
      exact iteT (hq _ (Same.refl _))
    obtain ⟨x0, x1, rfl⟩ := two_of h2
    have e : decide (V.int (([x0, x1] : List V).length : Nat) = V.int 2) = true := decide_eq_true rfl
    rw [e]
    obtain ⟨t0, ht0⟩ := ((hv.sub hpt).2 x0 (by simp)).th
    have tx1 := (hv.sub hpt).2 x1 (by simp)
    refine iteF ⟨_, rfl, pt, _, _, x0, rfl, rfl, .of hpt, atI_nat (j := 0) rfl, _, "str", t0, rfl, ht0, by decide, _, rfl, ?_⟩
    rcases str_or ht0 with ⟨wz, rfl, rfl⟩ | ⟨e1, e2⟩
    rotate_left
    · rw [e2]
      rw [fromB_kind ep e1] at hq
      exact iteT (hq _ (Same.refl _))
    refine iteF ?_
    rw [fromB_at ep] at hq
    refine ⟨_, rfl, pt, _, _, .str wz, rfl, rfl, .of hpt, atI_nat (j := 0) rfl, rfl, _, rfl, ?_⟩
    refine ite2 (fun ew => ?_) (fun ew => ?_)
    · have ew' : wz = "ground" := V.str.inj (of_decide_eq_true ew)
      rw [if_pos ew'] at hq
      refine ⟨_, rfl, pt, _, _, x1, rfl, rfl, .of hpt, atI_nat (j := 1) rfl, _, rfl, p, _, _, .ref ga, rfl, rfl, .of hp, atI_nat (j := 1) rfl, ga, _, rfl, .inr (.of hga), b, _, _, rfl, tx1, _, rfl, ?_⟩
      rw [lg]
      cases hb : belowV (gs.length : Int) x1 with
      | false =>
        rw [hb] at hq
        exact iteF (hq _ (Same.refl _))
      | true =>
        rw [hb] at hq
        obtain ⟨n, rfl, hn, hi⟩ := below_int hb
        rw [hi] at hq
        refine iteT ⟨_, rfl, pt, _, _, .int (n : Int), rfl, rfl, .of hpt, atI_nat (j := 1) rfl, _, rfl, .int (n : Int), _, .int n, .tup (.of hlt) (dpNs ns), shaped_int _, shaped_ns ns, _, rfl, ?_⟩
        rw [any_ns]
        by_cases hm : n ∈ ns
        · rw [decide_eq_true hm]
          rw [decide_eq_true hm] at hq
          obtain ⟨gf, hgf⟩ : ∃ gf, gs[n]? = some gf := ⟨_, List.getElem?_eq_getElem hn⟩
          obtain ⟨pg, hpg1, fas, hfa, hfp⟩ := Paired.at hgp hgf
          refine iteT ⟨_, rfl, _, rfl, p, _, _, .ref ga, rfl, rfl, .of hp, atI_nat (j := 1) rfl, _, rfl, pt, _, _, .int (n : Int), rfl, rfl, .of hpt, atI_nat (j := 1) rfl, ga, _, _, .ref pg, rfl, rfl, .of hga, atI_nat (j := n) (by rw [List.getElem?_map, hpg1]; rfl), dF g, gf.map dF, dpF hf, .tup (.of hfa) (dpFs hfp), shaped_dF hg, shaped_fs (hG.gr gf (List.mem_of_getElem? hgf)), ?_⟩
          rw [any_iff]
          rw [hgf, Option.getD_some] at hq
          exact hq _ (Same.refl _)
        · rw [decide_eq_false hm]
          rw [decide_eq_false hm] at hq
          exact iteF (hq _ (Same.refl _))
    · have ew' : wz ≠ "ground" := fun z => ew (by rw [z]; exact decide_eq_true rfl)
      rw [if_neg ew'] at hq
      refine ⟨_, rfl, pt, _, _, .str wz, rfl, rfl, .of hpt, atI_nat (j := 0) rfl, rfl, _, rfl, ?_⟩
      by_cases ec : wz = "clause"
      rotate_left
      · have e5 : decide (V.str wz = V.str "clause") = false := decide_eq_false fun z => ec (V.str.inj z)
        rw [e5]
        rw [decide_eq_false ec] at hq
        exact iteT (hq _ (Same.refl _))
      have e5 : decide (V.str wz = V.str "clause") = true := decide_eq_true (by rw [ec])
      rw [e5]
      rw [decide_eq_true ec] at hq
      refine iteF ⟨_, rfl, pt, _, _, x1, rfl, rfl, .of hpt, atI_nat (j := 1) rfl, _, rfl, p, _, _, .ref ca, rfl, rfl, .of hp, atI_nat (j := 0) rfl, ca, _, rfl, .inr (.of hca), b, _, _, rfl, tx1, _, rfl, ?_⟩
      rw [lc]
      cases hb : belowV (cs.length : Int) x1 with
      | false =>
        rw [hb] at hq
        exact iteT (hq _ (Same.refl _))
      | true =>
        rw [hb] at hq
        obtain ⟨n, rfl, hn, hi⟩ := below_int hb
        rw [hi] at hq
        obtain ⟨pc, c1, pb, ph, c2, ⟨bas, c3, c4⟩, c5⟩ := Paired.at hcp (bo_at hn)
        refine iteF ⟨_, rfl, p, _, _, .ref ca, rfl, rfl, .of hp, atI_nat (j := 0) rfl, _, rfl, pt, _, _, .int (n : Int), rfl, rfl, .of hpt, atI_nat (j := 1) rfl, ca, _, _, .ref pc, rfl, rfl, .of hca, atI_nat (j := n) (by rw [List.getElem?_map, c1]; rfl), ?_⟩
        refine ⟨pc, _, rfl, .of c2, rfl, _, _, rfl, _, _, rfl, rfl, ?_⟩
        have gc := hG.cl _ (List.mem_of_getElem? (bo_at hn))
        have gh : GF (hd cs n) := gc.2.2
        refine ⟨_, rfl, _, rfl, dF (hd cs n), dF g, dpF c5, dpF hf, shaped_dF gh, shaped_dF hg, _, rfl, ?_⟩
        rw [show PyData.eqv (dF (hd cs n)) (dF g) = decide (hd cs n = g) from eqv_p _ _]
        cases hh : decide (hd cs n = g) with
        | false =>
          rw [hh] at hq
          exact iteF (hq _ (Same.refl _))
        | true =>
          rw [hh] at hq
          have lb : bas.length = (bo cs n).length := Paired.len c4
          have lb4 : (bo cs n).length ≤ 4 := gc.1
          refine iteT ⟨_, rfl, pb, rfl, ⟨_, .of c3⟩, fun D hD => ?_⟩
          refine lcP walk_tup (fun i => V.bl (decide ((bo cs n).getD i [] ∈ kn))) (by rw [List.length_map]; exact Nat.lt_of_le_of_lt (show bas.length ≤ 4 by omega) (by decide)) hD (fun _ sm => seqT sm (.of c3)) ?_ ?_
          · rintro i y H3 H4 Q' hi sm ⟨rfl, hy⟩ hq2
            obtain ⟨fa, hfa, rfl⟩ := ref_at hy
            obtain ⟨f1, hf1, hff⟩ := Paired.at' c4 hfa
            have gf1 : GF f1 := gc.2.1 f1 (List.mem_of_getElem? hf1)
            refine ⟨rfl, _, rfl, _, rfl, dF f1, kn.map dF, dpF (sm _ _ hff), .lst (.of (sm _ _ hk1)) (dpFs (Paired.mapP hk2 fun _ _ z => sm _ _ z)), shaped_dF gf1, shaped_dFs hk3, ?_⟩
            rw [any_iff]
            have : (bo cs n).getD i [] = f1 := by rw [List.getD_eq_getElem?_getD, hf1]; rfl
            rw [this] at hq2
            exact hq2 _ (Same.refl _)
          · intro H' sm hd2
            refine ⟨D, (List.range (bas.map V.ref).length).map fun i => decide ((bo cs n).getD i [] ∈ kn), rfl, .inl (.inl (by rw [hd2, List.map_map]; rfl)), ?_⟩
            have e6 : (bas.map V.ref).length = (bo cs n).length := by rw [List.length_map, lb]
            rw [e6, range_all (fun f => decide (f ∈ kn)) [] (bo cs n)]
            exact hq _ sm
end
end L2.My
end
section
set_option Elab.async false
set_option linter.all false
set_option maxRecDepth 100000
set_option maxHeartbeats 4000000
/-! The law's own judge of reasons: the same verdict. -/
namespace L2.My
open PySem PySem.Spec PyProof.Rows
abbrev sLar : Stmt := top 51
abbrev nLa : List Str := ["parts", "lot", "fact", "thing", "known", "pair"]
def spLar : Sp := fun vs H Q _ => ∃ (b p lt a : Addr) (cs : List Cz) (gs : List (List Fc)) (ns : List Nat) (f : Fc) (v : V), vs = [.ref p, .ref lt, .ref a, v] ∧ PtAt H p cs gs ∧ GR cs gs ∧ H lt = some (.tup (nI ns)) ∧ FactAt H a f ∧ GF f ∧ Thg b H v ∧
  ∀ H', Same H H' → Q (.bl (rsB H cs gs ns f v)) H'
section
variable {P : Program} {w : World} {K : PySem.W.Frag} {mg : Str → Option Value} {base : Heap} {C D : Addr}
theorem scLa : FnScope nLa ["parts", "lot", "fact", "thing"] (defScope sLar) := ⟨rfl, rfl, rfl, by decide +kernel, rfl, by decide +kernel, by decide +kernel⟩
theorem ok_lar {f : Addr} {fd : FuncData} {k : Nat} (F : Fun K "_law_are_reasons" "_law_are_reasons" sLar f fd) (T : Tx mg) (cF : Cal P w K mg base (k + 2) "_law_is_fact" ["thing"] spFact) (cR : Cal P w K mg base (k + 2) "_law_is_from" ["parts", "lot", "one", "told", "known"] spLfr) : FnOk P w K mg base CX0 (k + 3) f fd ["parts", "lot", "fact", "thing"] spLar := by
  refine F.ok scLa (fun vs H Q E h => ?_) (fun cdv A outer s H vs Q E hr h => ?_)
  · obtain ⟨b, p, lt, a, cs, gs, ns, g, v, rfl, _⟩ := h
    rfl
  · obtain ⟨b, p0, lt, a, cs, gs, ns, g, v, rfl, hP, hG, hlt, hf, hg, hv, q⟩ := h
    refine ⟨_, (pss_cons (ps_if (pt_or (pt_not (pt_val (pe_callB call_isTh (by rfl) T.isi (by decide +kernel) (pa_cons (pv 3) (pa_cons (pe_bltn (v := .ty "tuple") (u := .type "tuple") (by rfl) T.tuple_ (by decide +kernel) rfl) pa_nil))))) (pw_or1 (pt_cmpR op_eq (pe_callB call_len_seq (by rfl) T.len_ PySem.boot_len (pa_cons (pv 3) pa_nil)) pe_int (nomark _)))) (pss_one (ps_ret pe_bl)) pss_nil) (pss_cons (ps_set (i := 4) scLa.nd rfl (Or.inl rfl) (pe_lst pa_nil)) (pss_cons (ps_for PassesOwn.never rfl (pi_tup (pv 3)) (pg_name (i := 5) scLa.nd rfl (Or.inl rfl)) (pss_cons (ps_if (pt_or (pt_not (pt_val (pe_callB call_isTh (by rfl) T.isi (by decide +kernel) (pa_cons (pv 5) (pa_cons (pe_bltn (v := .ty "tuple") (u := .type "tuple") (by rfl) T.tuple_ (by decide +kernel) rfl) pa_nil))))) (pw_or (pt_cmpR op_ne (pe_callB call_len_seq (by rfl) T.len_ PySem.boot_len (pa_cons (pv 5) pa_nil)) pe_int (nomark _)) (pw_or (pt_not (pt_val (pe_c cF hr (by omega) (by rfl) (pa_cons (pe_ix ix_tup (pv 5) pe_int (fun _ _ => rfl)) pa_nil)))) (pw_or1 (pt_cmpR (op_inD (u65 hr)) (pe_ix ix_tup (pv 5) pe_int (fun _ _ => rfl)) (pv 4) rfl))))) (pss_one (ps_ret pe_bl)) pss_nil) (pss_cons (ps_if (pt_not (pt_val (pe_c cR hr (by omega) (by rfl) (pa_cons (pv 0) (pa_cons (pv 1) (pa_cons (pe_ix ix_tup (pv 5) pe_int (fun _ _ => rfl)) (pa_cons (pe_ix ix_tup (pv 5) pe_int (fun _ _ => rfl)) (pa_cons (pv 4) pa_nil)))))))) (pss_one (ps_ret pe_bl)) pss_nil) (pss_one (ps_expr (pe_bm PySem.F.plainAttrs_list PySem.F.slot_list_append PySem.F.type_list_append mt_append (pv 4) (pa_cons (pe_ix ix_tup (pv 5) pe_int (fun _ _ => rfl)) pa_nil))))))) (pss_one (ps_ret (pe_cmpR (op_eqD (u64 hr)) (pe_ix ix_list (pv 4) (pe_un un_neg pe_int) (fun _ _ => rfl)) (pv 2) rfl)))))), ?_⟩
    obtain ⟨t, ht⟩ := hv.th
    refine ⟨_, rfl, _, "tuple", t, rfl, ht, by decide, _, rfl, ?_⟩
    rcases tup_cases ht with ⟨p, xs, rfl, hp, ep, rfl⟩ | ⟨e1, e2⟩
    rotate_left
    · rw [e2]
      have z := q H (Same.refl _)
      rw [rsB_no e1] at z
      exact iteT z
    obtain ⟨hxl, hxs⟩ := hv.sub hp
    refine iteF ⟨_, rfl, p, _, rfl, .inr (.of hp), rfl, _, rfl, ?_⟩
    by_cases h0 : xs.length = 0
    · have e : decide (V.int (xs.length : Nat) = V.int 0) = true := decide_eq_true (by rw [h0]; rfl)
      rw [e]
      have z := q H (Same.refl _)
      rw [rsB_nil (by rw [ep, List.length_eq_zero_iff.mp h0])] at z
      exact iteT z
    have e : decide (V.int (xs.length : Nat) = V.int 0) = false := decide_eq_false fun z => h0 (by have := V.int.inj z; omega)
    rw [e]
    refine iteF ⟨by decide, fun kl nkl => ?_⟩
    refine ⟨_, rfl, p, rfl, ⟨_, .of ((same_upd nkl) _ _ hp)⟩, ?_⟩
    refine for_it (walk_tup (xs := xs)) (fun i σ G2 => ∃ y6, σ = [some (.ref p0), some (.ref lt), some (.ref a), some (.ref p), some (.ref kl), y6] ∧ Same H G2 ∧ ∃ kn, KnAt G2 kl kn ∧ kn.length ≤ i ∧ goB H cs gs ns [] (xs.take i) = some kn) ⟨_, rfl, same_upd nkl, [], ⟨[], upd_same, .nil, by simp⟩, Nat.le_refl _, rfl⟩ (fun i σ G2 _ h => ?_) ?_ ?_
    · obtain ⟨_, rfl, h, _⟩ := h
      exact .of (h _ _ hp)
    · rintro i v0 σ G2 G2' hi ⟨y6, rfl, s4, kn, hah, hkn, hgo⟩ ⟨rfl, hv0⟩
      have tv := hxs v0 (List.mem_of_getElem? hv0)
      have tvG := tv.same s4
      have fail : goB H cs gs ns kn [v0] = none → ∀ G3, Same H G3 → Q (.bl false) G3 := fun z G3 s => by
        have w := q G3 s
        rw [rsB_bad ep (goB_stop (i := i + 1) (by rw [goB_take hv0 hgo]; exact z))] at w
        exact w
      obtain ⟨t6, ht6⟩ := tvG.th
      refine ⟨_, rfl, _, "tuple", t6, rfl, ht6, by decide, _, rfl, ?_⟩
      rcases tup_cases ht6 with ⟨pp, us, rfl, hpp, epp, rfl⟩ | ⟨e1, e2⟩
      rotate_left
      · rw [e2]
        exact iteT (fail (goB_bad fun x y e => by rw [← tupOf_bl tv (.same s4), e1] at e; cases e) _ s4)
      have epH : tupOf H (.ref pp) = some us := by rw [← tupOf_bl tv (.same s4)]; exact epp
      refine iteF ⟨_, rfl, pp, _, rfl, .inr (.of hpp), rfl, _, rfl, ?_⟩
      by_cases h2 : us.length = 2
      rotate_left
      · have e : decide (V.int (us.length : Nat) = V.int 2) = false := decide_eq_false fun z => h2 (by have := V.int.inj z; omega)
        rw [e]
        exact iteT (fail (goB_bad fun x y e => by rw [epH] at e; cases e; exact h2 rfl) _ s4)
      obtain ⟨x0, x1, rfl⟩ := two_of h2
      have e : decide (V.int (([x0, x1] : List V).length : Nat) = V.int 2) = true := decide_eq_true rfl
      rw [e]
      obtain ⟨pp', epq, hppH, _, tus⟩ := tupOf_sub tv epH
      cases epq
      have tx0 := tus x0 (by simp)
      have tx1 := tus x1 (by simp)
      refine iteF ⟨_, rfl, pp, _, _, x0, rfl, rfl, .of hpp, atI_nat (j := 0) rfl, b, _, rfl, tx0.same s4, fun G3 s5 => ⟨_, rfl, ?_⟩⟩
      rw [factB_bl tx0 (.same s4)]
      cases hfb : factB H x0 with
      | false => exact iteT (fail (by rw [goB_one epH, if_neg (by rw [hfb]; simp)]) _ (s4.trans s5))
      | true =>
        obtain ⟨fa, f1, rfl, hfa, gf1⟩ := fact_of tx0 hfb
        have efv := facV_at hfa
        have s6 := s4.trans s5
        have hah3 := hah.same s5
        obtain ⟨kas, hk1, hk2, hk3⟩ := id hah3
        refine iteF ⟨_, rfl, pp, _, _, .ref fa, rfl, rfl, .of (s6 _ _ hppH), atI_nat (j := 0) rfl, _, rfl, dF f1, kn.map dF, dpF (s6 _ _ hfa), .lst (.of hk1) (dpFs hk2), shaped_dF gf1, shaped_dFs hk3, _, rfl, ?_⟩
        rw [any_iff]
        by_cases hin : f1 ∈ kn
        · rw [decide_eq_true hin]
          exact iteT (fail (by rw [goB_one epH, if_neg (by rw [efv]; exact fun z => z.2.1 hin)]) _ s6)
        rw [decide_eq_false hin]
        refine iteF ⟨_, rfl, _, rfl, _, rfl, pp, _, _, .ref fa, rfl, rfl, .of (s6 _ _ hppH), atI_nat (j := 0) rfl, _, rfl, pp, _, _, x1, rfl, rfl, .of (s6 _ _ hppH), atI_nat (j := 1) rfl, _, rfl, b, p0, lt, fa, kl, cs, gs, ns, kn, f1, x1, rfl, hP.same s6, hG, s6 _ _ hlt, s6 _ _ hfa, gf1, tx1.same s6, hah3, fun G4 s7 => ⟨_, rfl, ?_⟩⟩
        rw [fromB_bl tx1 (.same s6)]
        have s8 := s6.trans s7
        cases hfr : fromB H cs gs ns kn f1 x1 with
        | false => exact iteT (fail (by rw [goB_one epH, if_neg (by rw [efv, hfr]; simp)]) _ s8)
        | true =>
          have lak : kas.length = kn.length := Paired.len hk2
          have hk7 := s7 _ _ hk1
          refine iteF ⟨_, rfl, .inl ⟨rfl, _, SqL.of hk7⟩, _, rfl, pp, _, _, .ref fa, rfl, rfl, .of (s8 _ _ hppH), atI_nat (j := 0) rfl, kl, _, .ref fa, rfl, rfl, hk7, by rw [List.length_map]; exact Nat.lt_of_le_of_lt (show kas.length ≤ 5000 by omega) (by decide), ?_⟩
          have tk9 : TK G4 (upd G4 kl (.lst (kas.map V.ref ++ [.ref fa]))) := TK.upd hk7 (fun xs e => nomatch e)
          refine ⟨_, rfl, same_put s8 nkl, kn ++ [f1], ⟨kas ++ [fa], by rw [upd_same, List.map_append]; rfl, Paired.snoc (Paired.mapP hk2 fun _ _ z => tk9 _ _ (s7 _ _ z)) (tk9 _ _ (s8 _ _ hfa)), fun x hx => ?_⟩, ?_, ?_⟩
          · rcases List.mem_append.mp hx with z | z
            · exact hk3 x z
            · rw [List.mem_singleton.mp z]; exact gf1
          · rw [List.length_append, List.length_singleton]; omega
          · rw [goB_take hv0 hgo, goB_one epH, if_pos ⟨hfb, by rw [efv]; exact hin, by rw [efv]; exact hfr⟩, efv]
    · rintro σ G2 ⟨y6, rfl, s4, kn, ⟨kas, hk1, hk2, hk3⟩, hkn, hgo⟩
      rw [List.take_length] at hgo
      have hne : xs ≠ [] := fun z => h0 (by rw [z]; rfl)
      obtain ⟨xl, hxl2⟩ : ∃ xl, xs[xs.length - 1]? = some xl := ⟨_, List.getElem?_eq_getElem (by omega)⟩
      obtain ⟨x0, y0, el, hfb, hlast⟩ := goB_last hxl2 hgo
      have w := q G2 s4
      rw [rsB_good ep hne hgo] at w
      obtain ⟨kn', f1, rfl⟩ : ∃ kn' f1, kn = kn' ++ [f1] := by
        rw [List.getLast?_eq_some_iff] at hlast
        obtain ⟨ys, e⟩ := hlast
        exact ⟨ys, _, e⟩
      obtain ⟨kas', fa, e3, hk4, hk5⟩ : ∃ kas' fa, kas = kas' ++ [fa] ∧ Paired (FactAt G2) kas' kn' ∧ FactAt G2 fa f1 := by
        have ne : kas ≠ [] := fun z => by
          rw [z] at hk2
          have := Paired.len hk2
          simp at this
        obtain ⟨bs', b2, e4, h5, h6⟩ := paired_snoc (as := kas.dropLast) (a := kas.getLast ne) (by rw [List.dropLast_concat_getLast ne]; exact hk2)
        have e5 := List.append_inj' e4 rfl
        obtain ⟨rfl, e6⟩ := e5
        cases e6
        exact ⟨_, _, (List.dropLast_concat_getLast ne).symm, h5, h6⟩
      subst e3
      have lm : (kas' ++ [fa]).map V.ref = kas'.map V.ref ++ [.ref fa] := by rw [List.map_append]; rfl
      rw [lm] at hk1
      rw [List.getLast?_concat] at w
      have gf1 : GF f1 := hk3 f1 (by simp)
      refine ⟨_, rfl, _, rfl, kl, _, _, .ref fa, rfl, rfl, .of hk1, atI_last _ _, _, rfl, dF f1, dF g, dpF hk5, dpF (s4 _ _ hf), shaped_dF gf1, shaped_dF hg, ?_⟩
      rw [show PyData.eqv (dF f1) (dF g) = decide (f1 = g) from eqv_p _ _]
      have z : decide (f1 = g) = decide (some f1 = some g) := decide_eq_decide.mpr ⟨fun h => by rw [h], fun h => Option.some.inj h⟩
      rw [z]
      exact w
end
end L2.My
end
section
set_option Elab.async false
set_option linter.all false
set_option maxRecDepth 100000
set_option maxHeartbeats 4000000
/-! The law's own judge of closed collections: the same verdict. -/
namespace L2.My
open PySem PySem.Spec PyProof.Rows
abbrev sLic : Stmt := top 52
theorem walk_zipM {K : PySem.W.Frag} {a b : Addr} {xs ys : List V} : Walk (RZ.ItzT K a b) (min xs.length ys.length) (fun H => SqT K H a xs ∧ SqT K H b ys) (YPair (fun i => xs[i]?) (fun i => ys[i]?)) :=
  ⟨fun i H hi ⟨p, q⟩ => ⟨xs, ys, xs[i]'(by omega), ys[i]'(by omega), p, q, List.getElem?_eq_getElem (by omega), List.getElem?_eq_getElem (by omega)⟩, fun H ⟨p, q⟩ => ⟨xs, ys, p, q, by omega⟩, fun i H v H' _ ⟨p, q⟩ ⟨T, x, y, h1, h2, h3, h4, h5⟩ => ⟨T, x, y, h1, h2, h3, h4 _ p, h5 _ q⟩⟩
theorem sl_use {K : PySem.W.Frag} {H : Hp} {Q : VK} {p : Addr} {xs : List V} (hp : H p = some (.tup xs)) (key : ∀ G t, Same H G → SqT K G t (xs.drop 1) → Q (.ref t) G) : rSlA K (.ref p) (some 1) none H Q := by
  refine ⟨p, xs, rfl, .of hp, fun hw => ?_, fun _ t nt => key _ t (same_upd nt) ?_⟩
  · have := hw.1
    rw [sIx1] at this
    have e : xs = [] := List.length_eq_zero_iff.mp (by omega)
    exact key H p (Same.refl _) (.of (by rw [hp, e]; rfl))
  · cases xs with
    | nil => exact .of (by rw [upd_same]; rfl)
    | cons x xs => exact .of (by rw [upd_same, cutTail]; rfl)
abbrev nLc : List Str := ["parts", "lot", "fact", "thing", "one", "other", "body", "head"]
def spLic : Sp := fun vs H Q _ => ∃ (b p lt a : Addr) (cs : List Cz) (gs : List (List Fc)) (ns : List Nat) (f : Fc) (v : V), vs = [.ref p, .ref lt, .ref a, v] ∧ PtAt H p cs gs ∧ GR cs gs ∧ H lt = some (.tup (nI ns)) ∧ LotOk gs ns ∧ FactAt H a f ∧ GF f ∧ Thg b H v ∧
  ∀ H', Same H H' → Q (.bl (clB H cs gs ns f v)) H'
def bhSc2 : Scope := { kind := .function, names := [(".0", .local), ("body", .local), ("head", .local), ("all", .globalImplicit), ("thing", .cell)], isGenerator := false, isCoroutine := false, more := [] }
section
variable {P : Program} {w : World} {K : PySem.W.Frag} {mg : Str → Option Value} {base : Heap} {C D : Addr}
theorem scLc : FnScope nLc ["parts", "lot", "fact", "thing"] (defScope sLic) := ⟨rfl, rfl, rfl, by decide +kernel, rfl, by decide +kernel, by decide +kernel⟩
theorem ok_lic {f : Addr} {fd : FuncData} {k : Nat} (F : Fun K "_law_is_closed" "_law_is_closed" sLic f fd) (T : Tx mg) (cF : Cal P w K mg base (k + 2) "_law_is_fact" ["thing"] spFact) (cG : Cal P w K mg base (k + 2) "_law_ground_facts" ["parts", "lot"] spGfT) : FnOk P w K mg base CX0 (k + 3) f fd ["parts", "lot", "fact", "thing"] spLic := by
  refine F.ok scLc (fun vs H Q E h => ?_) (fun cdv A outer s H vs Q E hr h => ?_)
  · obtain ⟨b, p, lt, a, cs, gs, ns, g, v, rfl, _⟩ := h
    rfl
  · obtain ⟨b, p0, lt, a, cs, gs, ns, g, v, rfl, ⟨ca, ga, hp0, hR1, hR2⟩, hG, hlt, hL, hf, hg, hv, q⟩ := h
    refine ⟨_, (pss_cons (ps_if (pt_or (pt_not (pt_val (pe_callB call_isTh (by rfl) T.isi (by decide +kernel) (pa_cons (pv 3) (pa_cons (pe_bltn (v := .ty "tuple") (u := .type "tuple") (by rfl) T.tuple_ (by decide +kernel) rfl) pa_nil))))) (pw_or1 (pt_not (pt_val (pe_callB (cr_all rfl) (by rfl) T.all_ (by decide +kernel) (pa_cons (pe_lc (own := [("one", 4)]) (g := gName 4) (te := tCall spFact [] E0 (tCons (tVar 4) tNil)) rfl scLc.nd (pi_tup (pv 3)) (blkOk_by (N := nLc) (sc := defScope sLic) (by decide +kernel)) (fun _ _ _ _ _ => pg_name (i := 4) scLc.nd rfl (Or.inl rfl)) (fun _ _ _ _ _ => pts_nil) (fun _ _ _ _ _ => (pe_c cF hr (by omega) (by rfl) (pa_cons (pv 4) pa_nil)))) pa_nil)))))) (pss_one (ps_ret pe_bl)) pss_nil) (pss_cons (ps_if (pt_or (pt_not (pt_val (pe_callB (cr_all rfl) (by rfl) T.all_ (by decide +kernel) (pa_cons (pe_lc (own := [("one", 4), ("other", 5)]) (g := gTup K 2 (gCons (gName 4) (gCons (gName 5) gNil))) (te := tOp rLtIF (tVar 4) (tVar 5)) rfl scLc.nd (RZ.pi_zipA (by rfl) T.zip_ (pa_cons (pv 3) (pa_cons (pe_slice sl_tupA (pv 3) (po_some pe_int) po_none) pa_nil))) (blkOk_by (N := nLc) (sc := defScope sLic) (by decide +kernel)) (fun _ _ _ _ _ => (pg_tup rfl (pgs_cons (pg_name (i := 4) scLc.nd rfl (Or.inl rfl)) (pgs_cons (pg_name (i := 5) scLc.nd rfl (Or.inl rfl)) pgs_nil)))) (fun _ _ _ _ _ => pts_nil) (fun _ _ _ _ _ => (pe_cmpR (op_ltIF (lt_un hr)) (pv 4) (pv 5) (nomark _)))) pa_nil)))) (pw_or1 (pt_cmpR (op_inTD (u65 hr)) (pv 2) (pv 3) rfl))) (pss_one (ps_ret pe_bl)) pss_nil) (pss_cons (ps_if (pt_not (pt_val (pe_callB (cr_all rfl) (by rfl) T.all_ (by decide +kernel) (pa_cons (pe_lc (own := [("one", 4)]) (g := gName 4) (te := tOp (rInTD K) (tVar 4) (tVar 3)) rfl scLc.nd (pi_list (pe_c cG hr (by omega) (by rfl) (pa_cons (pv 0) (pa_cons (pv 1) pa_nil)))) (blkOk_by (N := nLc) (sc := defScope sLic) (by decide +kernel)) (fun _ _ _ _ _ => pg_name (i := 4) scLc.nd rfl (Or.inl rfl)) (fun _ _ _ _ _ => pts_nil) (fun _ _ _ _ _ => (pe_cmpR (op_inTD (u65 hr)) (pv 4) (pv 3) rfl))) pa_nil)))) (pss_one (ps_ret pe_bl)) pss_nil) (pss_one (ps_ret (pe_callB (cr_all rfl) (by rfl) T.all_ (by decide +kernel) (pa_cons (pe_lc (own := [("body", 6), ("head", 7)]) (g := gTup K 2 (gCons (gName 6) (gCons (gName 7) gNil))) (te := tOrV (tOp (rInTD K) (tVar 7) (tVar 3)) (tNotV (tCB (rAll K) (tCons (tLc (iTup K (tVar 6)) (gName 4) tYes (tOp (rInTD K) (tVar 4) (tVar 3)) [4]) tNil)))) rfl scLc.nd (pi_tup (pe_ix ix_tup (pv 0) pe_int (fun _ _ => rfl))) (blkOk_by (N := nLc) (sc := defScope sLic) (by decide +kernel)) (fun _ _ _ _ _ => (pg_tup rfl (pgs_cons (pg_name (i := 6) scLc.nd rfl (Or.inl rfl)) (pgs_cons (pg_name (i := 7) scLc.nd rfl (Or.inl rfl)) pgs_nil)))) (fun _ _ _ _ _ => pts_nil)
        (fun _ _ _ _ _ => (pe_or (pe_cmpR (op_inTD (u65 hr)) (pv 7) (pv 3) rfl) (pe_one (pe_not (pe_callB (cr_all rfl) (by rfl) T.all_ (by decide +kernel) (pa_cons (pe_lc (own := [("one", 4)]) (g := gName 4) (te := tOp (rInTD K) (tVar 4) (tVar 3)) rfl scLc.nd (pi_tup (pv 6)) (blkOk_by (N := nLc) (sc := bhSc2) (by decide +kernel)) (fun _ _ _ _ _ => (pg_name (i := 4) scLc.nd rfl (Or.inl rfl))) (fun _ _ _ _ _ => pts_nil) (fun _ _ _ _ _ => (pe_cmpR (op_inTD (u65 hr)) (pv 4) (pv 3) rfl))) pa_nil))))))) pa_nil))))))), ?_⟩
    obtain ⟨t, ht⟩ := hv.th
    refine ⟨_, rfl, _, "tuple", t, rfl, ht, by decide, _, rfl, ?_⟩
    rcases tup_cases ht with ⟨p, xs, rfl, hp, ep, rfl⟩ | ⟨e1, e2⟩
    rotate_left
    · rw [e2]
      have z := q H (Same.refl _)
      rw [clB_no e1] at z
      exact iteT z
    obtain ⟨hxl, hxs⟩ := hv.sub hp
    rw [clB_at ep] at q
    refine iteF ⟨_, rfl, p, rfl, ⟨_, .of hp⟩, fun D hD => ?_⟩
    refine lcP walk_tup (fun i => V.bl (factB H (xs.getD i .non))) (Nat.lt_of_le_of_lt hxl (by decide)) hD (fun _ sm => seqT sm (.of hp)) ?_ ?_
    · rintro i y H3 H4 Q' hi sm ⟨rfl, hy⟩ hq
      have ty := hxs y (List.mem_of_getElem? hy)
      have eg : xs.getD i .non = y := by rw [List.getD_eq_getElem?_getD, hy]; rfl
      rw [eg] at hq
      refine ⟨rfl, _, rfl, b, _, rfl, ty.same sm, fun H5 s5 => ?_⟩
      rw [factB_bl ty (.same sm)]
      exact hq _ s5
    intro H3 s3 hd3
    refine ⟨D, (List.range xs.length).map fun i => factB H (xs.getD i .non), rfl, .inl (.inl (by rw [hd3, List.map_map]; rfl)), ?_⟩
    rw [range_all (factB H) V.non xs]
    cases ha : xs.all (factB H) with
    | false =>
      rw [ha] at q
      exact ⟨_, rfl, iteT (q _ s3)⟩
    | true =>
      rw [ha, Bool.true_and] at q
      obtain ⟨as, fs, rfl, hfp, hgf⟩ := facts_of hxs ha
      rw [facVs hfp] at q
      have las := Paired.len hfp
      rw [List.length_map] at hxl
      refine ⟨_, rfl, iteF ⟨_, rfl, _, rfl, _, rfl, ?_⟩⟩
      dsimp only [tNoPart]
      refine sl_use (s3 _ _ hp) fun G tt sG hT => ?_
      have s4 := s3.trans sG
      have lmin : min (as.map V.ref).length ((as.map V.ref).drop 1).length = fs.length - 1 := by rw [List.length_drop, List.length_map, las]; omega
      refine ⟨p, tt, _, _, rfl, .inr ⟨.of (s4 _ _ hp), hT, fun D2 nD2 => ?_⟩⟩
      refine lcP walk_zipM (fun i => V.bl (ltF (fs.getD i []) (fs.getD (i + 1) []))) (by rw [lmin]; exact Nat.lt_of_le_of_lt (show fs.length - 1 ≤ 5000 by omega) (by decide)) nD2 (fun _ sm => ⟨seqT sm (.of (s4 _ _ hp)), seqT sm hT⟩) ?_ ?_
      · rintro i y G3 G4 Q' hi sm ⟨T2, u1, u2, rfl, np, rfl, e1, e2⟩ hq
        have e1' : (as.map V.ref)[i]? = some u1 := e1
        have e2' : ((as.map V.ref).drop 1)[i]? = some u2 := e2
        rw [List.getElem?_drop, Nat.add_comm] at e2'
        obtain ⟨a1, h1, rfl⟩ := ref_at e1'
        obtain ⟨a2, h2, rfl⟩ := ref_at e2'
        obtain ⟨f1, g1, r1⟩ := Paired.at' hfp h1
        obtain ⟨f2, g2, r2⟩ := Paired.at' hfp h2
        have s5 := (s4.trans sm).trans (same_upd (o := HO.tup [V.ref a1, V.ref a2]) np)
        have z1 : fs.getD i [] = f1 := by rw [List.getD_eq_getElem?_getD, g1]; rfl
        have z2 : fs.getD (i + 1) [] = f2 := by rw [List.getD_eq_getElem?_getD, g2]; rfl
        rw [z1, z2] at hq
        exact ⟨T2, _, rfl, .of upd_same, rfl, _, _, rfl, _, _, rfl, rfl, rfl, _, rfl, _, rfl, .inr ⟨a1, a2, f1, f2, rfl, rfl, s5 _ _ r1, s5 _ _ r2, (hgf _ (List.mem_of_getElem? g1)).shp, (hgf _ (List.mem_of_getElem? g2)).shp, hq _ (same_upd np)⟩⟩
      intro G3 sm hd5
      refine ⟨D2, (List.range (fs.length - 1)).map fun i => ltF (fs.getD i []) (fs.getD (i + 1) []), rfl, .inl (.inl (by rw [hd5, lmin, List.map_map]; rfl)), ?_⟩
      rw [ascB_all]
      have s5 := s4.trans sm
      clear hd5 nD2 hd3 hD lmin hT
      unfold clL at q
      cases hb : ascB fs with
      | false =>
        rw [hb] at q
        exact ⟨_, rfl, iteT (q _ s5)⟩
      | true =>
        rw [hb, Bool.true_and] at q
        have dth : ∀ {G : Hp}, Same H G → Dp K G (.ref p) (.tuple (fs.map dF)) := fun s => .tup (.of (s _ _ hp)) (dpFs (Paired.mapP hfp fun _ _ z => s _ _ z))
        have shf := shaped_fs hgf
        refine ⟨_, rfl, iteF ⟨_, rfl, _, rfl, dF g, fs.map dF, dpF (s5 _ _ hf), dth s5, shaped_dF hg, shf, _, rfl, ?_⟩⟩
        rw [any_iff]
        by_cases hm : g ∈ fs
        · rw [decide_eq_true hm]
          rw [decide_eq_true hm] at q
          exact iteT (q _ s5)
        rw [decide_eq_false hm]
        rw [decide_eq_false hm] at q
        obtain ⟨gas, hga, hgp⟩ := id hR2
        obtain ⟨cas, hca, hcp⟩ := id hR1
        refine iteF ⟨_, rfl, _, rfl, p0, lt, ca, ga, gs, ns, rfl, s5 _ _ hp0, hR2.tk (.same s5), (fun x hx => ⟨hG.nf x hx, hG.gr x hx⟩), s5 _ _ hlt, hL.bnd, hL.len, fun G6 l bs fl s6' hl hbp hbg hbl efl => ?_⟩
        have s6 := s5.trans s6'
        have lbs := Paired.len hbp
        refine ⟨l, rfl, ⟨_, SqL.of hl⟩, fun D3 nD3 => ?_⟩
        refine lcP walk_list (fun i => V.bl (decide (fl.getD i [] ∈ fs))) (by rw [List.length_map, lbs]; exact Nat.lt_of_le_of_lt hbl (by decide)) nD3 (fun _ sm => SqL.of (sm _ _ hl)) ?_ ?_
        · rintro i y G7 G8 Q' hi sm7 ⟨rfl, hy⟩ hq
          obtain ⟨fa, hfa, rfl⟩ := ref_at hy
          obtain ⟨f1, hf1, hff⟩ := Paired.at' hbp hfa
          refine ⟨rfl, _, rfl, _, rfl, dF f1, fs.map dF, dpF (sm7 _ _ hff), dth (s6.trans sm7), shaped_dF (hbg f1 (List.mem_of_getElem? hf1)), shf, ?_⟩
          rw [any_iff]
          have : fl.getD i [] = f1 := by rw [List.getD_eq_getElem?_getD, hf1]; rfl
          rw [this] at hq
          exact hq _ (Same.refl _)
        intro G7 s7' hd7
        have s7 := s6.trans s7'
        refine ⟨D3, (List.range (bs.map V.ref).length).map fun i => decide (fl.getD i [] ∈ fs), rfl, .inl (.inl (by rw [hd7, List.map_map]; rfl)), ?_⟩
        rw [List.length_map, lbs, range_all (fun f => decide (f ∈ fs)) [] fl, efl]
        cases hc : (gfs gs ns).all fun x => decide (x ∈ fs) with
        | false =>
          rw [hc] at q
          exact ⟨_, rfl, iteT (q _ s7)⟩
        | true =>
          rw [hc] at q
          refine ⟨_, rfl, iteF ?_⟩
          have lcs : (cas.map V.ref).length = cs.length := by rw [List.length_map, Paired.len hcp]
          refine ⟨_, rfl, p0, _, _, .ref ca, rfl, rfl, .of (s7 _ _ hp0), atI_nat (j := 0) rfl, ca, rfl, ⟨_, .of (s7 _ _ hca)⟩, fun D4 nD4 => ?_⟩
          refine lcP walk_tup (fun i => V.bl (decide ((cs.getD i ([], [])).2 ∈ fs) || !((cs.getD i ([], [])).1.all fun x => decide (x ∈ fs)))) (by rw [lcs]; exact Nat.lt_of_le_of_lt hG.nc (by decide)) nD4 (fun _ sm => seqT sm (.of (s7 _ _ hca))) ?_ ?_
          · rintro i y G8 G9 Q' hi sm8 ⟨rfl, hy⟩ hq
            obtain ⟨pc, hpc, rfl⟩ := ref_at hy
            obtain ⟨c, hc1, pb, ph, c2, ⟨bas, c3, c4⟩, c5⟩ := Paired.at' hcp hpc
            have ec : cs.getD i ([], []) = c := by rw [List.getD_eq_getElem?_getD, hc1]; rfl
            rw [ec] at hq
            have s8 := s7.trans sm8
            have gc := hG.cl _ (List.mem_of_getElem? hc1)
            refine ⟨pc, _, rfl, .of (s8 _ _ c2), rfl, _, _, rfl, _, _, rfl, rfl, rfl, _, rfl, _, rfl, dF c.2, fs.map dF, dpF (s8 _ _ c5), dth s8, shaped_dF gc.2.2, shf, _, rfl, ?_⟩
            rw [any_iff]
            cases hh : decide (c.2 ∈ fs) with
            | true =>
              rw [hh] at hq
              exact iteT (hq _ (Same.refl _))
            | false =>
              rw [hh, Bool.false_or] at hq
              have lb : bas.length = c.1.length := Paired.len c4
              have lb4 : c.1.length ≤ 4 := gc.1
              refine iteF ⟨_, rfl, pb, rfl, ⟨_, .of (s8 _ _ c3)⟩, fun D5 nD5 => ?_⟩
              refine lcP walk_tup (fun i => V.bl (decide (c.1.getD i [] ∈ fs))) (by rw [List.length_map]; exact Nat.lt_of_le_of_lt (show bas.length ≤ 4 by omega) (by decide)) nD5 (fun _ sm => seqT sm (.of (s8 _ _ c3))) ?_ ?_
              · rintro j z G10 G11 Q2 hj sm9 ⟨rfl, hz⟩ hq2
                obtain ⟨fa, hfa, rfl⟩ := ref_at hz
                obtain ⟨f1, hf1, hff⟩ := Paired.at' c4 hfa
                refine ⟨rfl, _, rfl, _, rfl, dF f1, fs.map dF, dpF (sm9 _ _ (s8 _ _ hff)), dth (s8.trans sm9), shaped_dF (gc.2.1 f1 (List.mem_of_getElem? hf1)), shf, ?_⟩
                rw [any_iff]
                have : c.1.getD j [] = f1 := by rw [List.getD_eq_getElem?_getD, hf1]; rfl
                rw [this] at hq2
                exact hq2 _ (Same.refl _)
              · intro G10 sm9 hd9
                refine ⟨D5, (List.range (bas.map V.ref).length).map fun i => decide (c.1.getD i [] ∈ fs), rfl, .inl (.inl (by rw [hd9, List.map_map]; rfl)), _, rfl, ?_⟩
                have e6 : (bas.map V.ref).length = c.1.length := by rw [List.length_map, lb]
                rw [e6, range_all (fun f => decide (f ∈ fs)) [] c.1]
                exact hq _ sm9
          · intro G8 sm8 hd8
            refine ⟨D4, (List.range (cas.map V.ref).length).map fun i => (decide ((cs.getD i ([], [])).2 ∈ fs) || !((cs.getD i ([], [])).1.all fun x => decide (x ∈ fs))), rfl, .inl (.inl (by rw [hd8, List.map_map]; rfl)), ?_⟩
            rw [lcs, range_all (fun c : Cz => decide (c.2 ∈ fs) || !(c.1.all fun x => decide (x ∈ fs))) ([], []) cs]
            exact q _ (s7.trans sm8)
end
end L2.My
end
section
set_option Elab.async false
set_option linter.all false
set_option maxRecDepth 100000
set_option maxHeartbeats 4000000
/-! What reasons tells is judged right. -/
namespace L2.My
open PySem PySem.Spec PyProof.Rows
theorem filter_at {α : Type} (p : α → Bool) : ∀ (F : List α) (i : Nat) (q : α), (F.filter p)[i]? = some q → ∃ j, F[j]? = some q ∧ (F.take j).filter p = (F.filter p).take i
  | [], i, q, h => by simp at h
  | x :: F, i, q, h => by
    by_cases hx : p x = true
    · rw [List.filter_cons, if_pos hx] at h ⊢
      cases i with
      | zero =>
        refine ⟨0, by simpa using h, rfl⟩
      | succ i =>
        rw [List.getElem?_cons_succ] at h
        obtain ⟨j, h1, h2⟩ := filter_at p F i q h
        refine ⟨j + 1, by rw [List.getElem?_cons_succ]; exact h1, ?_⟩
        rw [List.take_succ_cons, List.take_succ_cons, List.filter_cons, if_pos hx, h2]
    · rw [List.filter_cons, if_neg hx] at h ⊢
      obtain ⟨j, h1, h2⟩ := filter_at p F i q h
      refine ⟨j + 1, by rw [List.getElem?_cons_succ]; exact h1, ?_⟩
      rw [List.take_succ_cons, List.filter_cons, if_neg hx, h2]
theorem filter_nd {p : Wo → Bool} : ∀ {F : List Wo}, (ks (wi F)).Nodup → (ks (wi (F.filter p))).Nodup
  | [], h => h
  | x :: F, h => by
    have hx : x.1.1 ∉ ks (wi F) ∧ (ks (wi F)).Nodup := by
      have := h
      unfold ks wi at this ⊢
      rw [List.map_cons, List.map_cons, List.nodup_cons] at this
      exact this
    have ih := filter_nd (p := p) hx.2
    rw [List.filter_cons]
    by_cases hp : p x = true
    · rw [if_pos hp]
      unfold ks wi at ih ⊢
      rw [List.map_cons, List.map_cons, List.nodup_cons]
      refine ⟨fun z => hx.1 ?_, ih⟩
      rw [List.map_map] at z
      obtain ⟨q, hq, e⟩ := List.mem_map.mp z
      exact mem_kw.mpr ⟨q, (List.mem_filter.mp hq).1, e⟩
    · rw [if_neg hp]; exact ih
theorem kw_take {L : List Wo} (nd : (ks (wi L)).Nodup) {i : Nat} {q : Wo} (h : L[i]? = some q) : q.1.1 ∉ ks (wi (L.take i)) := by
  have e : L = L.take i ++ L.drop i := (List.take_append_drop i L).symm
  have hd : L.drop i = q :: L.drop (i + 1) := by
    obtain ⟨h1, h2⟩ := List.getElem?_eq_some_iff.mp h
    rw [← h2]
    exact List.drop_eq_getElem_cons h1
  rw [e, hd] at nd
  unfold ks wi at nd ⊢
  rw [List.map_append, List.map_append, List.map_cons, List.map_cons] at nd
  intro z
  exact (List.nodup_append.mp nd).2.2 _ z _ List.mem_cons_self rfl
theorem from_ok {H : Hp} {cs : List Cz} {gs : List (List Fc)} {ns : List Nat} {kn : List Fc} {q : Wo} {o : Addr} (ho : OgAt H o q.2) (hb : ∀ n ∈ ns, n < gs.length) (h : OgOk cs gs ns kn q) : fromB H cs gs ns kn q.1.1 (.ref o) = true := by
  have e := tupOf_at ho
  rw [fromB_at e]
  rcases h with ⟨h1, h2, g, h3, h4⟩ | ⟨h1, h2, h3, h4⟩
  · rw [h1]
    rw [if_pos (show kinS false = "ground" from rfl)]
    have b : belowV (gs.length : Int) (.int (q.2.2 : Nat)) = true := decide_eq_true ⟨Int.natCast_nonneg _, by have := hb _ h2; omega⟩
    have iv : iV (.int (q.2.2 : Nat)) = q.2.2 := rfl
    rw [b, iv, decide_eq_true h2, h3, Option.getD_some, decide_eq_true h4]
    rfl
  · rw [h1]
    rw [if_neg (show kinS true ≠ "ground" by decide +kernel)]
    have b : belowV (cs.length : Int) (.int (q.2.2 : Nat)) = true := decide_eq_true ⟨Int.natCast_nonneg _, by omega⟩
    have iv : iV (.int (q.2.2 : Nat)) = q.2.2 := rfl
    rw [b, iv, decide_eq_true h3, decide_eq_true (show kinS true = "clause" from rfl)]
    rw [Bool.true_and, Bool.true_and, Bool.true_and, List.all_eq_true]
    exact fun f hf => decide_eq_true (h4 f hf)
end L2.My
end
section
set_option Elab.async false
set_option linter.all false
set_option maxRecDepth 100000
set_option maxHeartbeats 4000000
namespace L2.My
open PySem PySem.Spec PyProof.Rows
theorem rsn_og {cs : List Cz} {gs : List (List Fc)} {ns : List Nat} {F : List Wo} {f : Fc} (hW : FndW cs gs ns F) {i : Nat} {q : Wo} (h : (rsn cs F f)[i]? = some q) : OgOk cs gs ns (ks (wi ((rsn cs F f).take i))) q := by
  unfold rsn at h ⊢
  obtain ⟨j, hj, e⟩ := filter_at _ F i q h
  have hm := (List.mem_filter.mp (List.mem_of_getElem? h))
  have hr : Rch cs F f q.1.1 := @of_decide_eq_true _ (Classical.propDecidable _) hm.2
  rcases hW.fo j q hj with z | ⟨h1, h2, h3, h4⟩
  · exact .inl z
  · refine .inr ⟨h1, h2, h3, fun g hg => ?_⟩
    rw [← e]
    obtain ⟨p, hp, e2⟩ := mem_kw.mp (h4 g hg)
    have rg : Rch cs F f g := .step (q := q) hr hm.1 (by unfold kids; rw [if_pos h1]; exact hg)
    exact mem_kw.mpr ⟨p, List.mem_filter.mpr ⟨hp, @decide_eq_true _ (Classical.propDecidable _) (by rw [e2]; exact rg)⟩, e2⟩
theorem rs_go {H : Hp} {cs : List Cz} {gs : List (List Fc)} {ns : List Nat} {F : List Wo} {f : Fc} (hW : FndW cs gs ns F) (hG : GR cs gs) (hb : ∀ n ∈ ns, n < gs.length) {as : List Addr} (hp : Paired (PrAt H) as (rsn cs F f)) :
    ∀ i, i ≤ (rsn cs F f).length → goB H cs gs ns [] ((as.map V.ref).take i) = some (ks (wi ((rsn cs F f).take i)))
  | 0, _ => by rw [List.take_zero, List.take_zero]; rfl
  | i + 1, hi => by
    have ih := rs_go hW hG hb hp i (by omega)
    obtain ⟨q, hq⟩ : ∃ q, (rsn cs F f)[i]? = some q := ⟨_, List.getElem?_eq_getElem (by omega)⟩
    obtain ⟨a, ha, b, o, h1, h2, h3⟩ := Paired.at hp hq
    have hv : (as.map V.ref)[i]? = some (.ref a) := by rw [List.getElem?_map, ha]; rfl
    rw [goB_take hv ih, goB_one (tupOf_at h1), facV_at h2]
    have hm : q ∈ F := by
      have := List.mem_of_getElem? hq
      unfold rsn at this
      exact (List.mem_filter.mp this).1
    have gq : GF q.1.1 := der_gf hG ((hW.der _).mp (mem_kw.mpr ⟨q, hm, rfl⟩))
    have nd : (ks (wi (rsn cs F f))).Nodup := by unfold rsn; exact filter_nd hW.nd
    rw [if_pos ⟨factB_ok h2 gq, kw_take nd hq, from_ok h3 hb (rsn_og hW hq)⟩, take_snoc hq, wi_snoc, ks_snoc]
theorem rsn_last {cs : List Cz} {gs : List (List Fc)} {ns : List Nat} {F : List Wo} {f : Fc} (hW : FndW cs gs ns F) (hf : f ∈ ks (wi F)) : ∃ L' q, rsn cs F f = L' ++ [q] ∧ q.1.1 = f := by
  obtain ⟨q0, hq0, e0⟩ := mem_kw.mp hf
  obtain ⟨n, hn⟩ := List.getElem?_of_mem hq0
  have hlt := (List.getElem?_eq_some_iff.mp hn).1
  have hF : F = F.take (n + 1) ++ F.drop (n + 1) := (List.take_append_drop _ F).symm
  have ht : F.take (n + 1) = F.take n ++ [q0] := take_snoc hn
  have dis : ∀ q ∈ F.drop (n + 1), ¬ Rch cs F f q.1.1 := fun q hq r => by
    rw [← e0] at r
    obtain ⟨i, p, hi, hp, e⟩ := rch_ahead hW.fo hW.nd hn r
    have hpt : p ∈ F.take (n + 1) := by
      apply List.mem_of_getElem? (i := i)
      rw [List.getElem?_take, if_pos (by omega)]
      exact hp
    have nd := hW.nd
    rw [hF] at nd
    unfold ks wi at nd
    rw [List.map_append, List.map_append] at nd
    exact (List.nodup_append.mp nd).2.2 p.1.1 (List.mem_map.mpr ⟨p.1, List.mem_map.mpr ⟨p, hpt, rfl⟩, rfl⟩) q.1.1 (List.mem_map.mpr ⟨q.1, List.mem_map.mpr ⟨q, hq, rfl⟩, rfl⟩) e
  refine ⟨(F.take n).filter fun q => @decide (Rch cs F f q.1.1) (Classical.propDecidable _), q0, ?_, e0⟩
  have e1 : rsn cs F f = (F.take (n + 1) ++ F.drop (n + 1)).filter fun q => @decide (Rch cs F f q.1.1) (Classical.propDecidable _) := by
    rw [← hF]; rfl
  have e2 : (F.drop (n + 1)).filter (fun q => @decide (Rch cs F f q.1.1) (Classical.propDecidable _)) = [] := List.filter_eq_nil_iff.mpr fun q hq z => dis q hq (@of_decide_eq_true _ (Classical.propDecidable _) z)
  rw [e1, List.filter_append, e2, List.append_nil, ht, List.filter_append, List.filter_cons, if_pos (@decide_eq_true _ (Classical.propDecidable _) (by rw [e0]; exact .base)), List.filter_nil]
/-- what reasons tells passes the judge -/
theorem rs_right {H : Hp} {cs : List Cz} {gs : List (List Fc)} {ns : List Nat} {F : List Wo} {f : Fc} {x : Addr} (hW : FndW cs gs ns F) (hG : GR cs gs) (hb : ∀ n ∈ ns, n < gs.length) (hf : f ∈ ks (wi F)) (h : RsAt H x (rsn cs F f)) : rsB H cs gs ns f (.ref x) = true := by
  obtain ⟨as, hx, hp⟩ := h
  have la := Paired.len hp
  obtain ⟨L', q, eL, eq1⟩ := rsn_last hW hf
  have z := rs_go hW hG hb hp (rsn cs F f).length (Nat.le_refl _)
  rw [List.take_length, ← la, ← List.length_map (f := V.ref), List.take_length] at z
  have ne : as.map V.ref ≠ [] := fun e => by
    have := congrArg List.length e
    rw [List.length_map, la, eL, List.length_append] at this
    simp at this
  rw [rsB_good (tupOf_at hx) ne z, eL, wi_snoc, ks_snoc, List.getLast?_concat, eq1]
  exact decide_eq_true rfl
end L2.My
end
section
set_option Elab.async false
set_option linter.all false
set_option maxRecDepth 100000
set_option maxHeartbeats 4000000
namespace L2.My
open PySem PySem.Spec PyProof.Rows
theorem asc_of {fs : List Fc} (h : ∀ i f g, fs[i]? = some f → fs[i + 1]? = some g → ltF f g = true) : ascB fs = true := by
  rw [← ascB_all, List.all_map, List.all_eq_true]
  intro i hi
  rw [List.mem_range] at hi
  have e1 : fs[i]? = some fs[i] := List.getElem?_eq_getElem (by omega)
  have e2 : fs[i + 1]? = some fs[i + 1] := List.getElem?_eq_getElem (by omega)
  show ltF (fs.getD i []) (fs.getD (i + 1) []) = true
  rw [List.getD_eq_getElem?_getD, List.getD_eq_getElem?_getD, e1, e2]
  exact h i _ _ e1 e2
theorem cl_right {cs : List Cz} {gs : List (List Fc)} {ns : List Nat} {f : Fc} {fs : List Fc} (ha : ascB fs = true) (hm : ∀ f, f ∈ fs ↔ Der cs (Gof gs ns) none f) (hn : ¬ Der cs (Gof gs ns) none f) : clL cs gs ns f fs = true := by
  unfold clL
  rw [ha, decide_eq_false (fun z => hn ((hm f).mp z))]
  have e1 : ((gfs gs ns).all fun x => decide (x ∈ fs)) = true := List.all_eq_true.mpr fun x hx => decide_eq_true ((hm x).mpr (.gr (by
    unfold gfs at hx
    obtain ⟨n, h1, h2⟩ := List.mem_flatMap.mp hx
    cases e : gs[n]? with
    | none => rw [e] at h2; cases h2
    | some g => rw [e] at h2; exact ⟨n, h1, g, e, h2⟩)))
  have e2 : (cs.all fun c => decide (c.2 ∈ fs) || !(c.1.all fun x => decide (x ∈ fs))) = true := List.all_eq_true.mpr fun c hc => by
    by_cases hb : (c.1.all fun x => decide (x ∈ fs)) = true
    · obtain ⟨i, hi⟩ := List.getElem?_of_mem hc
      have : c.2 ∈ fs := (hm c.2).mpr (.cl (i := i) (b := c.1) hi (fun z => nomatch z) fun x hx => (hm x).mp (of_decide_eq_true (List.all_eq_true.mp hb x hx)))
      rw [decide_eq_true this]
      rfl
    · rw [Bool.eq_false_iff.mpr hb]
      simp
  rw [e1, e2]
  rfl
theorem asc_up {fs : List Fc} (hu : UpF fs) (hn : fs.Nodup) : ascB fs = true := asc_of fun i f g h1 h2 => by
  obtain ⟨a1, rfl⟩ := List.getElem?_eq_some_iff.mp h1
  obtain ⟨a2, rfl⟩ := List.getElem?_eq_some_iff.mp h2
  have h3 := List.pairwise_iff_getElem.mp hu i (i + 1) a1 a2 (by omega)
  have h4 := List.pairwise_iff_getElem.mp hn i (i + 1) a1 a2 (by omega)
  cases e : ltF fs[i] fs[i + 1] with
  | true => rfl
  | false => exact absurd (ltF_tot e h3) h4
/-- what closed tells passes the judge -/
theorem clB_right {H : Hp} {cs : List Cz} {gs : List (List Fc)} {ns : List Nat} {f : Fc} {x : Addr} {fs : List Fc} (hG : GR cs gs) (hx : FactsAt H x fs) (h : AllOf cs gs ns fs) (hn : ¬ Der cs (Gof gs ns) none f) : clB H cs gs ns f (.ref x) = true := by
  obtain ⟨as, h1, h2⟩ := hx
  rw [clB_at (tupOf_at h1), facVs h2, cl_right (asc_up h.up h.nd) h.mem hn, Bool.and_true, List.all_eq_true]
  intro v hv
  obtain ⟨a, f1, rfl, hf, hm⟩ := pair_ref h2 hv
  exact factB_ok hf (der_gf hG ((h.mem f1).mp hm))
end L2.My
end
section
set_option Elab.async false
set_option linter.all false
set_option maxRecDepth 100000
set_option maxHeartbeats 4000000
namespace L2.My
open PySem PySem.Spec PyProof.Rows
abbrev sNest : Stmt := top 37
/-! ### expressions that make things -/
def Stb (b : Addr) (P : Hp → Prop) : Prop := ∀ H H', P H → BL [b] H H' → P H'
def GT (b g : Addr) (P : Hp → Prop) (σ : St) (te : TE) : Prop := ∀ H (Q : VK), HandAt H b g → P H → (∀ H' v, BL [b] H H' → HandAt H' b g → Thg b H' v → Q v H') → te σ H Q
def GA (b g : Addr) (P : Hp → Prop) (σ : St) (n : Nat) (ta : TA) : Prop := ∀ H (Q : List V → Hp → Prop), HandAt H b g → P H → (∀ H' vs, BL [b] H H' → HandAt H' b g → (∀ v ∈ vs, Thg b H' v) → vs.length = n → Q vs H') → ta σ H Q
/-- a new list of things -/
def GL (b g : Addr) (P : Hp → Prop) (σ : St) (n : Nat) (te : TE) : Prop := ∀ H (Q : VK), HandAt H b g → P H → (∀ H' l vs, BL [b] H H' → HandAt H' b g → H l = none → H' l = some (.lst vs) → (∀ v ∈ vs, Thg b H' v) → vs.length = n → Q (.ref l) H') → te σ H Q
section
variable {b g : Addr} {P : Hp → Prop} {σ : St}
theorem ga_nil : GA b g P σ 0 tNil := fun H Q hB _ q => q H [] .refl hB (by simp) rfl
theorem ga_cons {n : Nat} {te : TE} {ta : TA} (st : Stb b P) (h1 : GT b g P σ te) (h2 : GA b g P σ n ta) : GA b g P σ (n + 1) (tCons te ta) := fun H Q hB p q =>
  h1 H _ hB p fun H1 v bl1 hB1 t1 => h2 H1 _ hB1 (st _ _ p bl1) fun H2 vs bl2 hB2 t2 hl => q H2 (v :: vs) (bl1.trans bl2) hB2 (fun u hu => by
    rcases List.mem_cons.mp hu with z | z
    · rw [z]; exact t1.bl bl2
    · exact t2 u z) (by rw [List.length_cons, hl])
theorem gt_tup {n : Nat} {ta : TA} (hn : n ≤ 1000) (h : GA b g P σ n ta) : GT b g P σ (tTup ta) := fun H Q hB p q =>
  h H _ hB p fun H1 vs bl1 hB1 t1 hl => ⟨Nat.le_trans (show vs.length ≤ 1000 by omega) (by decide), fun a na => by
    have s := same_upd (o := HO.tup vs) na
    exact q _ _ (bl1.trans (.same s)) (hB1.same s) (.tup upd_same (hB1.nb na) (by omega) fun v hv => (t1 v hv).same s)⟩
theorem gl_lst {n : Nat} {ta : TA} (hn : n ≤ 1000) (h : GA b g P σ n ta) : GL b g P σ n (tLst ta) := fun H Q hB p q =>
  h H _ hB p fun H1 vs bl1 hB1 t1 hl => ⟨Nat.le_trans (show vs.length ≤ 1000 by omega) (by decide), fun a na => by
    have s := same_upd (o := HO.lst vs) na
    exact q _ a vs (bl1.trans (.same s)) (hB1.same s) (bl1.nw na (by simpa using hB1.nb na)) upd_same (fun v hv => (t1 v hv).same s) hl⟩
theorem gl_gt {n : Nat} {te : TE} (h : GL b g P σ n te) : GT b g P σ te := fun H Q hB p q => h H Q hB p fun H1 l vs bl hB1 nl hl _ _ => q H1 _ bl hB1 (.lst hl (hB.nb nl))
theorem gt_lst {n : Nat} {ta : TA} (hn : n ≤ 1000) (h : GA b g P σ n ta) : GT b g P σ (tLst ta) := gl_gt (gl_lst hn h)
theorem gt_int (i : Int) : GT b g P σ (tC (.int i)) := fun H Q hB _ q => q H _ .refl hB (.int i)
theorem gt_non : GT b g P σ (tC .non) := fun H Q hB _ q => q H _ .refl hB .non
theorem gt_bl (i : Bool) : GT b g P σ (tC (.bl i)) := fun H Q hB _ q => q H _ .refl hB (.boo i)
theorem gt_str (z : Str) (h : z.length ≤ 5000) : GT b g P σ (tC (.str z)) := fun H Q hB _ q => q H _ .refl hB (.str z h)
theorem gt_var {i : Nat} {v : V} (e : σ[i]? = some (some v)) (h : ∀ H, P H → Thg b H v) : GT b g P σ (tVar i) := fun H Q hB p q => ⟨v, e, q H _ .refl hB (h H p)⟩
end
def spNest : Sp := fun vs H Q _ => ∃ b g, vs = [.ref b] ∧ HandAt H b g ∧ ∀ H' v, BL [b] H H' → HandAt H' b g → Thg b H' v → Q v H'
theorem gt_nest {b g : Addr} {P : Hp → Prop} {σ : St} (e : σ[0]? = some (some (.ref b))) : GT b g P σ (tCall spNest [] E0 (tCons (tVar 0) tNil)) := fun H Q hB _ q => ⟨_, e, b, g, rfl, hB, q⟩
section
variable {P : Program} {w : World} {K : PySem.W.Frag} {mg : Str → Option Value} {base : Heap}
theorem scNest : FnScope ["hand", "thing", "turn"] ["hand"] (defScope sNest) := ⟨rfl, rfl, rfl, by decide +kernel, rfl, by decide +kernel, by decide +kernel⟩
theorem ok_nest {f : Addr} {fd : FuncData} {k : Nat} (F : Fun K "_law_nested" "_law_nested" sNest f fd) (T : Tx mg) (cA : Cal P w K mg base (k + 2) "_law_any" ["hand", "items"] spAny) : FnOk P w K mg base CX0 (k + 3) f fd ["hand"] spNest := by
  refine F.ok scNest (fun vs H Q E h => ?_) (fun cdv A outer s H vs Q E hr h => ?_)
  · obtain ⟨b, g, rfl, _⟩ := h
    rfl
  · obtain ⟨b, g, rfl, hB, q⟩ := h
    refine ⟨_, (pss_cons (ps_set (i := 1) scNest.nd rfl (Or.inl rfl) (pe_c cA hr (by omega) (by rfl) (pa_cons (pv 0) (pa_cons (pe_lst (pa_cons (pe_tup pa_nil) (pa_cons pe_int (pa_cons pe_str (pa_cons pe_non pa_nil))))) pa_nil)))) (pss_cons (ps_for PassesOwn.never rfl (pi_range1 (by rfl) T.range_ (pa_cons pe_int pa_nil)) (pg_name (i := 2) scNest.nd rfl (Or.inl rfl)) (pss_one (ps_set (i := 1) scNest.nd rfl (Or.inl rfl) (pe_ifExp (pt_cmpR op_eq (pe_op op_mod (pe_callTy call_int1 (by rfl) T.int_ (by decide +kernel) (pa_cons (pv 2) pa_nil)) pe_int) pe_int (nomark _)) (pe_lst (pa_cons (pv 1) pa_nil)) (pe_tup (pa_cons (pv 1) pa_nil)))))) (pss_one (ps_ret (pv 1))))), ?_⟩
    refine ⟨_, rfl, ?_⟩
    refine gl_lst (b := b) (g := g) (P := fun _ => True) (n := 4) (by decide) (ga_cons (fun _ _ _ _ => trivial) (gt_tup (by decide) ga_nil) (ga_cons (fun _ _ _ _ => trivial) (gt_int 0) (ga_cons (fun _ _ _ _ => trivial) (gt_str "a" (by decide)) (ga_cons (fun _ _ _ _ => trivial) gt_non ga_nil)))) H _ hB trivial fun H1 l vs bl1 hB1 nl hl ht hlen => ?_
    refine ⟨b, g, l, vs, rfl, hB1, hl, hB.nb nl, (fun e => by rw [e] at hlen; cases hlen), by omega, fun H2 v bl2 hB2 hv => ?_⟩
    refine ⟨24, rfl, by decide, by decide, ?_⟩
    refine for_it (walk_range (lo := 0)) (fun i σ G => ∃ v y2, σ = [some (.ref b), some v, y2] ∧ BL [b] H G ∧ HandAt G b g ∧ Thg b G v) ⟨v, _, rfl, bl1.trans bl2, hB2, (ht v hv).bl bl2⟩ (fun i σ G _ _ => trivial) ?_ ?_
    · rintro i y σ G G' hi ⟨v, y2, rfl, bl, hBg, hv⟩ ⟨rfl, rfl⟩
      refine ⟨_, rfl, .inl ⟨_, rfl, _, _, rfl, rfl, (by show (0 : Int) < 5; decide), rfl, _, rfl, ?_⟩⟩
      refine ite2 (fun _ => ?_) (fun _ => ?_)
      · refine ⟨_, rfl, by show 1 ≤ sizeLine; decide, fun p np => ?_⟩
        have s := same_upd (o := HO.lst [v]) np
        exact ⟨_, _, rfl, bl.trans (.same s), hBg.same s, .lst upd_same (hBg.nb np)⟩
      · refine ⟨_, rfl, by show 1 ≤ sizeLine; decide, fun p np => ?_⟩
        have s := same_upd (o := HO.tup [v]) np
        exact ⟨_, _, rfl, bl.trans (.same s), hBg.same s, .tup upd_same (hBg.nb np) (by show 1 ≤ 5000; decide) fun x hx => by
          rw [List.mem_singleton.mp hx]; exact hv.same s⟩
    · rintro σ G ⟨v, y2, rfl, bl, hBg, hv⟩
      exact ⟨_, rfl, q G v bl hBg hv⟩
end
end L2.My
end
section
set_option Elab.async false
set_option linter.all false
set_option maxRecDepth 100000
set_option maxHeartbeats 4000000
/-! A drawn fact, mostly one of a rule. -/
namespace L2.My
open PySem PySem.Spec PyProof.Rows
abbrev sAskd : Stmt := top 44
def spAskd : Sp := fun vs H Q _ => ∃ (b g p : Addr) (cs : List Cz) (gs : List (List Fc)), vs = [.ref b, .ref p] ∧ HandAt H b g ∧ PtAt H p cs gs ∧ GR cs gs ∧ ∀ H' a f, BL [b] H H' → HandAt H' b g → FactAt H' a f → GF f → Q (.ref a) H'
abbrev nAk : List Str := ["hand", "parts", "some", "body", "head"]
section
variable {P : Program} {w : World} {K : PySem.W.Frag} {mg : Str → Option Value} {base : Heap} {C D : Addr}
theorem scAk : FnScope nAk ["hand", "parts"] (defScope sAskd) := ⟨rfl, rfl, rfl, by decide +kernel, rfl, by decide +kernel, by decide +kernel⟩
theorem ok_askd {f : Addr} {fd : FuncData} {k : Nat} (F : Fun K "_law_asked" "_law_asked" sAskd f fd) (T : Tx mg) (cG : Cal P w K mg base (k + 1) "_law_ground_facts" ["parts", "lot"] spGf) (cD : Cal P w K mg base (k + 1) "_law_draw" ["hand", "many"] spDraw) (cF : Cal P w K mg base (k + 3) "_law_fact" ["hand"] spLfact) (cA : Cal P w K mg base (k + 2) "_law_any" ["hand", "items"] spAny) : FnOk P w K mg base CX0 (k + 4) f fd ["hand", "parts"] spAskd := by
  refine F.ok scAk (fun vs H Q E h => ?_) (fun cdv A outer s H vs Q E hr h => ?_)
  · obtain ⟨b, g, p, cs, gs, rfl, _⟩ := h
    rfl
  · obtain ⟨b, g, p, cs, gs, rfl, hB, ⟨ca, ga, hp, hR1, hR2⟩, hG, q⟩ := h
    refine ⟨_, (pss_cons (ps_set (i := 2) scAk.nd rfl (Or.inl rfl) (pe_op op_cat (pe_lc (own := [("body", 3), ("head", 4)]) (g := gTup K 2 (gCons (gName 3) (gCons (gName 4) gNil))) (te := tVar 4) rfl scAk.nd (pi_tup (pe_ix ix_tup (pv 1) pe_int (fun _ _ => rfl))) (blkOk_by (N := nAk) (sc := defScope sAskd) (by decide +kernel)) (fun _ _ _ _ _ => (pg_tup rfl (pgs_cons (pg_name (i := 3) scAk.nd rfl (Or.inl rfl)) (pgs_cons (pg_name (i := 4) scAk.nd rfl (Or.inl rfl)) pgs_nil)))) (fun _ _ _ _ _ => pts_nil) (fun _ _ _ _ _ => (pv 4))) (pe_c cG hr (by omega) (by rfl) (pa_cons (pv 1) (pa_cons (pe_listRg rfl (by rfl) T.list_ (prg_1 (by rfl) T.range_ (pe_callB call_len_seq (by rfl) T.len_ PySem.boot_len (pa_cons (pe_ix ix_tup (pv 1) pe_int (fun _ _ => rfl)) pa_nil)))) pa_nil))))) (pss_one (ps_ret (pe_ifExp (pt_or (pt_cmpR op_eq (pe_callB call_len_seq (by rfl) T.len_ PySem.boot_len (pa_cons (pv 2) pa_nil)) pe_int (nomark _)) (pw_or1 (pt_cmpR op_eq (pe_c cD hr (by omega) (by rfl) (pa_cons (pv 0) (pa_cons pe_int pa_nil))) pe_int (nomark _)))) (pe_c cF hr (by omega) (by rfl) (pa_cons (pv 0) pa_nil)) (pe_c cA hr (by omega) (by rfl) (pa_cons (pv 0) (pa_cons (pv 2) pa_nil))))))), ?_⟩
    obtain ⟨cas, hca, hcp⟩ := id hR1
    obtain ⟨gas, hga, hgp⟩ := id hR2
    have lg := Paired.len hgp
    have lc := Paired.len hcp
    have hng := hG.ng
    have hnc := hG.nc
    obtain ⟨hs, hh1, hh2⟩ := cls_heads hcp
    have lh : cas.length = hs.length := Paired.len hh1
    refine ⟨_, rfl, p, _, _, .ref ca, rfl, rfl, .of hp, atI_nat (j := 0) rfl, ca, rfl, ⟨_, .of hca⟩, fun l1 nl1 => ?_⟩
    refine lcP walk_tup (fun i => (hs.map V.ref).getD i .non) (by rw [List.length_map, lc]; exact Nat.lt_of_le_of_lt hnc (by decide)) nl1 (fun _ sm => seqT sm (.of hca)) ?_ ?_
    · rintro i y G3 G4 Q' hi sm ⟨rfl, hy⟩ hq
      obtain ⟨pc, hpc, rfl⟩ := ref_at hy
      obtain ⟨ph, hph, pb, hc2⟩ := Paired.at' hh1 hpc
      have eq1 : (hs.map V.ref).getD i .non = .ref ph := by rw [List.getD_eq_getElem?_getD, List.getElem?_map, hph]; rfl
      rw [eq1] at hq
      exact ⟨pc, _, rfl, .of (sm _ _ hc2), rfl, _, _, rfl, _, _, rfl, rfl, rfl, _, rfl, hq _ (Same.refl _)⟩
    intro H1 s1 hd1
    have e1 : (List.range (cas.map V.ref).length).map (fun i => (hs.map V.ref).getD i .non) = hs.map V.ref := by
      rw [List.length_map, lh, ← List.length_map (f := V.ref)]
      apply List.ext_getElem
      · simp
      · intro i h1 h2
        rw [List.getElem_map, List.getElem_range, List.getD_eq_getElem?_getD, List.getElem?_eq_getElem h2]; rfl
    rw [e1] at hd1
    refine ⟨_, rfl, _, rfl, p, _, _, .ref ga, rfl, rfl, .of (s1 _ _ hp), atI_nat (j := 1) rfl, ga, _, rfl, .inr (.of (s1 _ _ hga)), ?_⟩
    rw [List.length_map, lg]
    refine ⟨_, rfl, RgOk.of_le (by decide) (by omega) (by decide) (by omega), fun l nl => ?_⟩
    rw [rgV_nI]
    have s2 := s1.trans (same_upd (o := HO.lst (nI (List.range gs.length))) nl)
    have hl := (same_upd (o := HO.lst (nI (List.range gs.length))) nl) _ _ hd1
    refine ⟨p, l, ca, ga, gs, List.range gs.length, rfl, s2 _ _ hp, hR2.tk (.same s2), fun x hx => ⟨hG.nf x hx, hG.gr x hx⟩, upd_same, fun n hn => List.mem_range.mp hn, by rw [List.length_range]; exact hng, fun H3 l2 as fs s3 hl2 hp2 hg2 hlen hfs => ?_⟩
    have sm3 := s2.trans s3
    refine ⟨l1, l2, _, _, rfl, rfl, s3 _ _ hl, hl2, by rw [List.length_map, List.length_map, Paired.len hp2, ← lh, lc]; exact Nat.le_trans (show cs.length + fs.length ≤ 61000 by omega) (by decide), fun sl nsl => ?_⟩
    have s4 := sm3.trans (same_upd (o := HO.lst (hs.map V.ref ++ as.map V.ref)) nsl)
    have hsl : (upd H3 sl (.lst (hs.map V.ref ++ as.map V.ref))) sl = some (.lst ((hs ++ as).map V.ref)) := by rw [upd_same, List.map_append]
    have nsb : sl ≠ b := (hB.same sm3).nb nsl
    generalize hG4 : upd H3 sl (.lst (hs.map V.ref ++ as.map V.ref)) = G4 at *
    have hB4 := hB.same s4
    have ll : ((hs ++ as).map V.ref).length = cs.length + fs.length := by rw [List.length_map, List.length_append, Paired.len hp2, ← lh, lc]
    have hpp : ∀ {G : Hp}, TK H G → TK H3 G → Paired (FactAt G) (hs ++ as) (cs.map (·.2) ++ fs) := fun t1 t2 => paired_app (Paired.mapP hh2 fun _ _ z => FactAt.tk z t1) (Paired.mapP hp2 fun _ _ z => FactAt.tk z t2)
    have hgf : ∀ f ∈ cs.map (·.2) ++ fs, GF f := fun f hf => by
      rcases List.mem_append.mp hf with z | z
      · obtain ⟨c, hc, rfl⟩ := List.mem_map.mp z
        exact (hG.cl c hc).2.2
      · exact hg2 f z
    refine ⟨_, rfl, sl, _, rfl, .inl (SqL.of hsl), rfl, _, rfl, ?_⟩
    have drawn : ∀ H5, BL [b] H H5 → HandAt H5 b g → tCall spLfact [] E0 (tCons (tVar 0) tNil) (([some (.ref b), some (.ref p), none, none, none] : St).set 2 (some (.ref sl))) H5 Q := fun H5 bl5 hB5 =>
      ⟨_, rfl, b, g, rfl, hB5, fun H6 p1 f1 bl6 hB6 hf6 gf6 => q H6 p1 f1 (bl5.trans bl6) hB6 hf6 gf6⟩
    refine ite2 (fun e0 => ?_) (fun e0 => ?_)
    · exact drawn G4 (.same s4) hB4
    · refine ⟨_, rfl, b, g, 6, rfl, hB4, by decide, by decide, fun H5 r bl5 hB5 _ _ => ⟨rfl, _, rfl, ?_⟩⟩
      refine ite2 (fun _ => ?_) (fun _ => ?_)
      · exact drawn H5 ((BL.same s4).trans bl5) hB5
      · have hne : (hs ++ as).map V.ref ≠ [] := fun z => e0 (by rw [z]; exact decide_eq_true rfl)
        have bl15 : BL [b] H H5 := (BL.same s4).trans bl5
        refine ⟨_, rfl, _, rfl, b, g, sl, _, rfl, hB5, bl5 _ _ (by simpa using nsb) hsl, nsb, hne, by rw [ll]; exact Nat.lt_of_le_of_lt (show cs.length + fs.length ≤ 61000 by omega) (by decide), fun H6 v bl6 hB6 hv => ?_⟩
        have nt : ∀ G, HandAt G b g → ∀ p ∈ [b], ∀ xs, G p ≠ some (.tup xs) := fun G hG2 p hp xs e => by
          rw [List.mem_singleton.mp hp] at e
          obtain ⟨_, _, _, _, _, z, _⟩ := hG2
          rw [z] at e; cases e
        have t1 : TK H H6 := .bl (bl15.trans bl6) (nt H hB)
        have t2 : TK H3 H6 := by
          have s34 : Same H3 G4 := by rw [← hG4]; exact same_upd nsl
          exact .bl (((BL.same s34).trans bl5).trans bl6) (nt H3 (hB.same sm3))
        obtain ⟨a1, f1, rfl, hf1, hm⟩ := pair_ref (hpp t1 t2) hv
        exact q H6 a1 f1 (bl15.trans bl6) hB6 hf1 (hgf f1 hm)
end
end L2.My
end
section
set_option Elab.async false
set_option linter.all false
set_option maxRecDepth 100000
set_option maxHeartbeats 4000000
/-! _law_is at any depth, as k50 has it. -/
namespace L2.My
open PySem PySem.Spec PyProof.Rows
inductive Atb : V → String → Prop where
  | int (i : Int) : Atb (.int i) "int"
  | str (z : Str) : Atb (.str z) "str"
  | non : Atb .non "NoneType"
  | boo (c : Bool) : Atb (.bl c) "bool"
theorem Atb.th {H : Hp} {v : V} {t : String} (h : Atb v t) : ThT H v t ∧ decide (t = "tuple" ∨ t = "list") = false ∧ t ∈ ["NoneType", "bool", "int", "str", "list", "tuple", "dict"] ∧ scal v v = true := by
  cases h with
  | int i => exact ⟨.int i, by decide, by decide, rfl⟩
  | str z => exact ⟨.str z, by decide, by decide, rfl⟩
  | non => exact ⟨.non, by decide, by decide, rfl⟩
  | boo c => exact ⟨.bl c, by decide, by decide, rfl⟩
/-- alike, n deep -/
def EqN (H : Hp) : Nat → V → V → Prop
  | 0, v, v' => (∃ t, Atb v t) ∧ v' = v
  | n + 1, v, v' => ((∃ t, Atb v t) ∧ v' = v) ∨ ∃ (a b : Addr) (xs ys : List V), v = .ref a ∧ v' = .ref b ∧ ((H a = some (.tup xs) ∧ H b = some (.tup ys)) ∨ (H a = some (.lst xs) ∧ H b = some (.lst ys))) ∧ Paired (EqN H n) xs ys ∧ xs.length ≤ 1000000
theorem EqN.same {H H' : Hp} (s : Same H H') : ∀ {n : Nat} {v v' : V}, EqN H n v v' → EqN H' n v v'
  | 0, v, v', h => h
  | n + 1, v, v', h => by
    rcases h with h | ⟨a, b, xs, ys, e1, e2, h1, h2, h3⟩
    · exact .inl h
    · refine .inr ⟨a, b, xs, ys, e1, e2, ?_, Paired.mapP h2 fun _ _ z => EqN.same s z, h3⟩
      rcases h1 with ⟨p, q⟩ | ⟨p, q⟩
      · exact .inl ⟨s _ _ p, s _ _ q⟩
      · exact .inr ⟨s _ _ p, s _ _ q⟩
theorem EqN.atm {H : Hp} {n : Nat} {v : V} {t : String} (h : Atb v t) : EqN H n v v := by
  cases n with
  | zero => exact ⟨⟨_, h⟩, rfl⟩
  | succ n => exact .inl ⟨⟨_, h⟩, rfl⟩
def spIsN (n : Nat) : Sp := fun vs H Q _ => ∃ v v' : V, vs = [v, v'] ∧ EqN H n v v' ∧ ∀ H', Same H H' → Q (.bl true) H'
section
variable {P : Program} {w : World} {K : PySem.W.Frag} {mg : Str → Option Value} {base : Heap}
theorem ok_isN0 {f : Addr} {fd : FuncData} {k : Nat} (F : Fun K "_law_is" "_law_is" sIs f fd) (T : Tx mg) : FnOk P w K mg base CX0 (k + 1) f fd ["given", "due"] (spIsN 0) := by
  refine F.ok scIs (fun vs H Q E h => ?_) (fun cdv A outer s H vs Q E hr h => ?_)
  · obtain ⟨v, v', rfl, _⟩ := h
    rfl
  · obtain ⟨v, v', rfl, ⟨⟨t, at1⟩, rfl⟩, q⟩ := h
    refine ⟨_, (pss_cons (ps_if (pt_val (pe_callB call_isiT (by rfl) T.isi (by decide +kernel) (pa_cons (pv 1) (pa_cons (pe_tup (pa_cons (pe_bltn (v := .ty "tuple") (u := .type "tuple") (by rfl) T.tuple_ (by decide +kernel) rfl) (pa_cons (pe_bltn (v := .ty "list") (u := .type "list") (by rfl) T.list_ (by decide +kernel) rfl) pa_nil))) pa_nil)))) pss_never pss_nil) (pss_one (ps_ret (pe_and (pe_cmpR op_eq (pe_callB call_isTh (by rfl) T.isi (by decide +kernel) (pa_cons (pv 0) (pa_cons (pe_bltn (v := .ty "bool") (u := .type "bool") (by rfl) T.bool_ (by decide +kernel) rfl) pa_nil))) (pe_callB call_isTh (by rfl) T.isi (by decide +kernel) (pa_cons (pv 1) (pa_cons (pe_bltn (v := .ty "bool") (u := .type "bool") (by rfl) T.bool_ (by decide +kernel) rfl) pa_nil))) (nomark _)) (pe_one (pe_cmpR op_eq (pv 0) (pv 1) (nomark _))))))), ?_⟩
    refine ⟨_, rfl, by show 2 ≤ sizeLine; decide, fun tp ntp => ?_⟩
    obtain ⟨h1, h2, h3, h5⟩ := at1.th (H := upd H tp (.tup [.ty "tuple", .ty "list"]))
    refine ⟨v', tp, _, .type t, _, _, rfl, upd_same, .cons (.ty _) (.cons (.ty _) .nil), h1.tyX, kitAny_tl t h3, _, rfl, ?_⟩
    rw [h2]
    refine iteF ?_
    refine ⟨_, rfl, _, "bool", t, rfl, h1, by decide, _, rfl, _, "bool", t, rfl, h1, by decide, rfl, _, rfl, ?_⟩
    rw [decide_eq_true rfl]
    refine iteT ⟨_, rfl, _, rfl, h5, ?_⟩
    rw [decide_eq_true rfl]
    exact q _ (same_upd ntp)
theorem ok_isS {f : Addr} {fd : FuncData} {k n : Nat} (F : Fun K "_law_is" "_law_is" sIs f fd) (T : Tx mg) (cI : Cal P w K mg base (k + 1) "_law_is" ["given", "due"] (spIsN n)) : FnOk P w K mg base CX0 (k + 2) f fd ["given", "due"] (spIsN (n + 1)) := by
  refine F.ok scIs (fun vs H Q E h => ?_) (fun cdv A outer s H vs Q E hr h => ?_)
  · obtain ⟨v, v', rfl, _⟩ := h
    rfl
  · obtain ⟨v, v', rfl, alk, q⟩ := h
    refine ⟨_, (pss_cons (ps_if (pt_val (pe_callB call_isiT (by rfl) T.isi (by decide +kernel) (pa_cons (pv 1) (pa_cons (pe_tup (pa_cons (pe_bltn (v := .ty "tuple") (u := .type "tuple") (by rfl) T.tuple_ (by decide +kernel) rfl) (pa_cons (pe_bltn (v := .ty "list") (u := .type "list") (by rfl) T.list_ (by decide +kernel) rfl) pa_nil))) pa_nil)))) (pss_cons (ps_if (pt_or (pt_cmpR op_ne (pe_callB call_isTh (by rfl) T.isi (by decide +kernel) (pa_cons (pv 0) (pa_cons (pe_bltn (v := .ty "tuple") (u := .type "tuple") (by rfl) T.tuple_ (by decide +kernel) rfl) pa_nil))) (pe_callB call_isTh (by rfl) T.isi (by decide +kernel) (pa_cons (pv 1) (pa_cons (pe_bltn (v := .ty "tuple") (u := .type "tuple") (by rfl) T.tuple_ (by decide +kernel) rfl) pa_nil))) (nomark _)) (pw_or1 (pt_not (pt_val (pe_callB call_isiT (by rfl) T.isi (by decide +kernel) (pa_cons (pv 0) (pa_cons (pe_tup (pa_cons (pe_bltn (v := .ty "tuple") (u := .type "tuple") (by rfl) T.tuple_ (by decide +kernel) rfl) (pa_cons (pe_bltn (v := .ty "list") (u := .type "list") (by rfl) T.list_ (by decide +kernel) rfl) pa_nil))) pa_nil))))))) (pss_one (ps_ret pe_bl)) pss_nil) (pss_one (ps_ret (pe_and (pe_cmpR op_eq (pe_callB call_len_seq (by rfl) T.len_ PySem.boot_len (pa_cons (pv 0) pa_nil)) (pe_callB call_len_seq (by rfl) T.len_ PySem.boot_len (pa_cons (pv 1) pa_nil)) (nomark _)) (pe_one (pe_callB (cr_all rfl) (by rfl) T.all_ (by decide +kernel) (pa_cons (pe_lc (own := [("one", 2), ("two", 3)]) (g := gTup K 2 (gCons (gName 2) (gCons (gName 3) gNil))) (te := tCall (spIsN n) [] E0 (tCons (tVar 2) (tCons (tVar 3) tNil))) rfl scIs.nd (RZ.pi_zipA (by rfl) T.zip_ (pa_cons (pv 0) (pa_cons (pv 1) pa_nil))) (blkOk_by (N := nIs) (sc := defScope sIs) (by decide +kernel)) (fun _ _ _ _ _ => (pg_tup rfl (pgs_cons (pg_name (i := 2) scIs.nd rfl (Or.inl rfl)) (pgs_cons (pg_name (i := 3) scIs.nd rfl (Or.inl rfl)) pgs_nil)))) (fun _ _ _ _ _ => pts_nil) (fun _ _ _ _ _ => (pe_c cI hr (by omega) (by rfl) (pa_cons (pv 2) (pa_cons (pv 3) pa_nil))))) pa_nil))))))) pss_nil) (pss_one (ps_ret (pe_and (pe_cmpR op_eq (pe_callB call_isTh (by rfl) T.isi (by decide +kernel) (pa_cons (pv 0) (pa_cons (pe_bltn (v := .ty "bool") (u := .type "bool") (by rfl) T.bool_ (by decide +kernel) rfl) pa_nil))) (pe_callB call_isTh (by rfl) T.isi (by decide +kernel) (pa_cons (pv 1) (pa_cons (pe_bltn (v := .ty "bool") (u := .type "bool") (by rfl) T.bool_ (by decide +kernel) rfl) pa_nil))) (nomark _)) (pe_one (pe_cmpR op_eq (pv 0) (pv 1) (nomark _))))))), ?_⟩
    refine ⟨_, rfl, by show 2 ≤ sizeLine; decide, fun tp ntp => ?_⟩
    have s1 : Same H (upd H tp (.tup [.ty "tuple", .ty "list"])) := same_upd ntp
    have htp : (upd H tp (.tup [.ty "tuple", .ty "list"])) tp = some (.tup [.ty "tuple", .ty "list"]) := upd_same
    generalize hH1 : upd H tp (.tup [.ty "tuple", .ty "list"]) = H1 at *
    rcases alk with ⟨⟨t, at1⟩, rfl⟩ | ⟨a, b, xs, ys, rfl, rfl, hab, hp, hl⟩
    · obtain ⟨h1, h2, h3, h5⟩ := at1.th (H := H1)
      refine ⟨_, tp, _, .type t, _, _, rfl, htp, .cons (.ty _) (.cons (.ty _) .nil), h1.tyX, kitAny_tl t h3, _, rfl, ?_⟩
      rw [h2]
      refine iteF ?_
      refine ⟨_, rfl, _, "bool", t, rfl, h1, by decide, _, rfl, _, "bool", t, rfl, h1, by decide, rfl, _, rfl, ?_⟩
      rw [decide_eq_true rfl]
      refine iteT ⟨_, rfl, _, rfl, h5, ?_⟩
      rw [decide_eq_true rfl]
      exact q _ s1
    have hlen : xs.length = ys.length := Paired.len hp
    rcases hab with ⟨ha, hb⟩ | ⟨ha, hb⟩
    · refine ⟨.ref b, tp, _, .type "tuple", _, _, rfl, htp, .cons (.ty _) (.cons (.ty _) .nil), (ThT.tup (s1 _ _ hb)).tyX, kitAny_tl "tuple" (by decide), _, rfl, iteT ?_⟩
      refine ⟨_, rfl, _, "tuple", _, rfl, .tup (s1 _ _ ha), by decide, _, rfl, _, "tuple", _, rfl, .tup (s1 _ _ hb), by decide, rfl, _, rfl, iteF ?_⟩
      refine ⟨_, rfl, by show 2 ≤ sizeLine; decide, fun tq ntq => ?_⟩
      have s2 : Same H1 (upd H1 tq (.tup [.ty "tuple", .ty "list"])) := same_upd ntq
      have htq : (upd H1 tq (.tup [.ty "tuple", .ty "list"])) tq = some (.tup [.ty "tuple", .ty "list"]) := upd_same
      have s12 := s1.trans s2
      generalize hH2 : upd H1 tq (.tup [.ty "tuple", .ty "list"]) = H2 at *
      refine ⟨.ref a, tq, _, .type "tuple", _, _, rfl, htq, .cons (.ty _) (.cons (.ty _) .nil), (ThT.tup (s12 _ _ ha)).tyX, kitAny_tl "tuple" (by decide), _, rfl, iteF ?_⟩
      refine ⟨_, rfl, a, _, rfl, .inr (.of (s12 _ _ ha)), _, rfl, b, _, rfl, .inr (.of (s12 _ _ hb)), rfl, _, rfl, ?_⟩
      rw [hlen, decide_eq_true rfl]
      refine iteT ?_
      refine ⟨_, rfl, _, rfl, a, b, _, _, rfl, .inr ⟨.of (s12 _ _ ha), .of (s12 _ _ hb), fun D hD => ?_⟩⟩
      refine lcP (walk_zipT hlen) (fun i => V.bl true) (Nat.lt_of_le_of_lt hl (by decide)) hD (fun _ sm => ⟨seqT sm (.of (s12 _ _ ha)), seqT sm (.of (s12 _ _ hb))⟩) ?_ ?_
      · rintro i y H3 H4 Q' hi sm ⟨p, u1, u2, rfl, np, rfl, e1, e2⟩ hq
        have e1' : xs[i]? = some u1 := e1
        have e2' : ys[i]? = some u2 := e2
        obtain ⟨u3, e3, al⟩ := Paired.at' hp e1'
        rw [e2'] at e3
        cases e3
        have s14 := (s12.trans sm).trans (same_upd (o := HO.tup [u1, u2]) np)
        refine ⟨p, _, rfl, .of upd_same, rfl, _, _, rfl, _, _, rfl, rfl, rfl, _, rfl, _, rfl, _, _, rfl, EqN.same s14 al, fun H5 s5 => ?_⟩
        exact hq _ ((same_upd np).trans s5)
      · intro H3 sm hd
        refine ⟨D, (List.range xs.length).map fun i => true, rfl, .inl (.inl (by rw [hd, List.map_map]; rfl)), ?_⟩
        rw [all_yes]
        exact q _ (s12.trans sm)
    · refine ⟨.ref b, tp, _, .type "list", _, _, rfl, htp, .cons (.ty _) (.cons (.ty _) .nil), (ThT.lst (s1 _ _ hb)).tyX, kitAny_tl "list" (by decide), _, rfl, iteT ?_⟩
      refine ⟨_, rfl, _, "tuple", _, rfl, .lst (s1 _ _ ha), by decide, _, rfl, _, "tuple", _, rfl, .lst (s1 _ _ hb), by decide, rfl, _, rfl, iteF ?_⟩
      refine ⟨_, rfl, by show 2 ≤ sizeLine; decide, fun tq ntq => ?_⟩
      have s2 : Same H1 (upd H1 tq (.tup [.ty "tuple", .ty "list"])) := same_upd ntq
      have htq : (upd H1 tq (.tup [.ty "tuple", .ty "list"])) tq = some (.tup [.ty "tuple", .ty "list"]) := upd_same
      have s12 := s1.trans s2
      generalize hH2 : upd H1 tq (.tup [.ty "tuple", .ty "list"]) = H2 at *
      refine ⟨.ref a, tq, _, .type "list", _, _, rfl, htq, .cons (.ty _) (.cons (.ty _) .nil), (ThT.lst (s12 _ _ ha)).tyX, kitAny_tl "list" (by decide), _, rfl, iteF ?_⟩
      refine ⟨_, rfl, a, _, rfl, .inl (SqL.of (s12 _ _ ha)), _, rfl, b, _, rfl, .inl (SqL.of (s12 _ _ hb)), rfl, _, rfl, ?_⟩
      rw [hlen, decide_eq_true rfl]
      refine iteT ?_
      refine ⟨_, rfl, _, rfl, a, b, _, _, rfl, .inl ⟨SqL.of (s12 _ _ ha), SqL.of (s12 _ _ hb), fun D hD => ?_⟩⟩
      refine lcP (walk_zip (n := xs.length) (by rw [hlen, Nat.min_self])) (fun i => V.bl true) (Nat.lt_of_le_of_lt hl (by decide)) hD (fun _ sm => ⟨SqL.of (sm _ _ (s12 _ _ ha)), SqL.of (sm _ _ (s12 _ _ hb))⟩) ?_ ?_
      · rintro i y H3 H4 Q' hi sm ⟨p, u1, u2, rfl, np, rfl, e1, e2⟩ hq
        have e1' : xs[i]? = some u1 := e1
        have e2' : ys[i]? = some u2 := e2
        obtain ⟨u3, e3, al⟩ := Paired.at' hp e1'
        rw [e2'] at e3
        cases e3
        have s14 := (s12.trans sm).trans (same_upd (o := HO.tup [u1, u2]) np)
        refine ⟨p, _, rfl, .of upd_same, rfl, _, _, rfl, _, _, rfl, rfl, rfl, _, rfl, _, rfl, _, _, rfl, EqN.same s14 al, fun H5 s5 => ?_⟩
        exact hq _ ((same_upd np).trans s5)
      · intro H3 sm hd
        refine ⟨D, (List.range xs.length).map fun i => true, rfl, .inl (.inl (by rw [hd, List.map_map]; rfl)), ?_⟩
        rw [all_yes]
        exact q _ (s12.trans sm)
end
theorem kv_atb (k : Key) : ∃ t, Atb (kV k) t := by
  cases k with
  | inl i => exact ⟨_, .int i⟩
  | inr z => exact ⟨_, .str z⟩
theorem EqN.up {H : Hp} : ∀ {n : Nat} {v v' : V}, EqN H n v v' → EqN H (n + 1) v v'
  | 0, v, v', h => .inl h
  | n + 1, v, v', h => by
    rcases h with h | ⟨a, b, xs, ys, e1, e2, h1, h2, h3⟩
    · exact .inl h
    · exact .inr ⟨a, b, xs, ys, e1, e2, h1, Paired.mapP h2 fun _ _ z => EqN.up z, h3⟩
theorem eqn_fact {H : Hp} {a b : Addr} {f : Fc} (h1 : FactAt H a f) (h2 : FactAt H b f) (g : GF f) : EqN H 1 (.ref a) (.ref b) := by
  refine .inr ⟨a, b, _, _, rfl, rfl, .inl ⟨h1, h2⟩, ?_, ?_⟩
  · clear h1 h2 g
    induction f with
    | nil => exact .nil
    | cons k r ih =>
      obtain ⟨t, ht⟩ := kv_atb k
      exact .cons ⟨⟨t, ht⟩, rfl⟩ ih
  · obtain ⟨z, is, rfl, _, hl, _⟩ := g
    simp only [List.length_map, List.length_cons]
    omega
theorem eqn_pair {H : Hp} {n : Nat} {α : Type} {R S : Addr → α → Prop} {as : List Addr} {xs : List α} (h : Paired R as xs) : ∀ {bs : List Addr}, Paired S bs xs → (∀ a b x, x ∈ xs → R a x → S b x → EqN H n (.ref a) (.ref b)) → Paired (EqN H n) (as.map V.ref) (bs.map V.ref) := by
  induction h with
  | nil =>
    intro bs k _
    cases k
    exact .nil
  | @cons a x as xs r _ ih =>
    intro bs k q
    cases k with
    | cons r2 k2 => exact .cons (q _ _ _ List.mem_cons_self r r2) (ih k2 fun a b y hy => q a b y (List.mem_cons_of_mem _ hy))
theorem eqn_facts {H : Hp} {a : Addr} {fs : List Fc} (h : FactsAt H a fs) (g : ∀ f ∈ fs, GF f) (hl : fs.length ≤ 1000) : EqN H 2 (.ref a) (.ref a) := by
  obtain ⟨as, ha, hp⟩ := h
  exact .inr ⟨a, a, _, _, rfl, rfl, .inl ⟨ha, ha⟩, eqn_pair hp hp fun _ _ x hx r s => eqn_fact r s (g x hx), by rw [List.length_map, Paired.len hp]; omega⟩
end L2.My
end
section
set_option Elab.async false
set_option linter.all false
set_option maxRecDepth 100000
set_option maxHeartbeats 4000000
/-! Verdicts stay while the hand draws; what reasons and closed tell are things, and alike when told again. -/
namespace L2.My
open PySem PySem.Spec PyProof.Rows
theorem facV_bl {b : Addr} {H H' : Hp} {v : V} (h : Thg b H v) (s : BL [b] H H') : facV H' v = facV H v := by
  unfold facV
  rw [tupOf_bl h s]
theorem goB_bl {b : Addr} {H H' : Hp} {cs : List Cz} {gs : List (List Fc)} {ns : List Nat} (s : BL [b] H H') : ∀ {xs : List V} {kn : List Fc}, (∀ x ∈ xs, Thg b H x) → goB H' cs gs ns kn xs = goB H cs gs ns kn xs
  | [], kn, _ => rfl
  | v :: r, kn, h => by
    have ih : ∀ kn, goB H' cs gs ns kn r = goB H cs gs ns kn r := fun kn => goB_bl s fun x hx => h x (List.mem_cons_of_mem _ hx)
    rw [goB_cons, goB_cons, tupOf_bl (h v List.mem_cons_self) s]
    cases e : tupOf H v with
    | none => rfl
    | some ys =>
      obtain ⟨a, _, _, _, q⟩ := tupOf_sub (h v List.mem_cons_self) e
      match ys, q with
      | [], _ => rfl
      | [x], _ => rfl
      | [x, y], q =>
        show (if factB H' x = true ∧ facV H' x ∉ kn ∧ fromB H' cs gs ns kn (facV H' x) y = true then goB H' cs gs ns (kn ++ [facV H' x]) r else none) = (if factB H x = true ∧ facV H x ∉ kn ∧ fromB H cs gs ns kn (facV H x) y = true then goB H cs gs ns (kn ++ [facV H x]) r else none)
        rw [factB_bl (q x (by simp)) s, facV_bl (q x (by simp)) s, fromB_bl (q y (by simp)) s, ih]
      | x :: y :: z :: r', _ => rfl
theorem rsB_bl {b : Addr} {H H' : Hp} {cs : List Cz} {gs : List (List Fc)} {ns : List Nat} {f : Fc} {v : V} (h : Thg b H v) (s : BL [b] H H') : rsB H' cs gs ns f v = rsB H cs gs ns f v := by
  unfold rsB
  rw [tupOf_bl h s]
  cases e : tupOf H v with
  | none => rfl
  | some xs =>
    obtain ⟨a, _, _, _, q⟩ := tupOf_sub h e
    match xs, q with
    | [], _ => rfl
    | x :: r, q =>
      show (match goB H' cs gs ns [] (x :: r) with | some kn => decide (kn.getLast? = some f) | none => false) = (match goB H cs gs ns [] (x :: r) with | some kn => decide (kn.getLast? = some f) | none => false)
      rw [goB_bl s q]
theorem clB_bl {b : Addr} {H H' : Hp} {cs : List Cz} {gs : List (List Fc)} {ns : List Nat} {f : Fc} {v : V} (h : Thg b H v) (s : BL [b] H H') : clB H' cs gs ns f v = clB H cs gs ns f v := by
  unfold clB
  rw [tupOf_bl h s]
  cases e : tupOf H v with
  | none => rfl
  | some xs =>
    obtain ⟨a, _, _, _, q⟩ := tupOf_sub h e
    show (xs.all (factB H') && clL cs gs ns f (xs.map (facV H'))) = (xs.all (factB H) && clL cs gs ns f (xs.map (facV H)))
    rw [all_congr fun x hx => factB_bl (q x hx) s, List.map_congr_left fun x hx => facV_bl (q x hx) s]
/-! ### things -/
theorem thg_og {b o : Addr} {H : Hp} {g : Og} (n : NoTup H b) (h : OgAt H o g) : Thg b H (.ref o) := .tup h (n.ne h) (by show 2 ≤ 5000; decide) fun x hx => by
  simp only [List.mem_cons, List.not_mem_nil, or_false] at hx
  rcases hx with rfl | rfl
  · refine .str _ ?_
    obtain ⟨c, m⟩ := g
    cases c
    · exact (by decide +kernel : (kinS false).length ≤ 5000)
    · exact (by decide +kernel : (kinS true).length ≤ 5000)
  · exact .int _
theorem thg_pr {b p : Addr} {H : Hp} {q : Wo} (n : NoTup H b) (h : PrAt H p q) (g : GF q.1.1) : Thg b H (.ref p) := by
  obtain ⟨x, o, h1, h2, h3⟩ := h
  refine .tup h1 (n.ne h1) (by show 2 ≤ 5000; decide) fun v hv => ?_
  simp only [List.mem_cons, List.not_mem_nil, or_false] at hv
  rcases hv with rfl | rfl
  · exact thg_fact n h2 g
  · exact thg_og n h3
theorem thg_rs {b a : Addr} {H : Hp} {l : List Wo} (n : NoTup H b) (h : RsAt H a l) (g : ∀ q ∈ l, GF q.1.1) (hl : l.length ≤ 5000) : Thg b H (.ref a) := by
  obtain ⟨as, h1, h2⟩ := h
  refine .tup h1 (n.ne h1) (by rw [List.length_map, Paired.len h2]; exact hl) fun v hv => ?_
  obtain ⟨p, q, rfl, hp, hq⟩ := pair_ref h2 hv
  exact thg_pr n hp (g q hq)
/-! ### alike -/
theorem eqn_og {H : Hp} {a b : Addr} {g : Og} (h1 : OgAt H a g) (h2 : OgAt H b g) : EqN H 1 (.ref a) (.ref b) := .inr ⟨a, b, _, _, rfl, rfl, .inl ⟨h1, h2⟩, .cons ⟨⟨_, .str _⟩, rfl⟩ (.cons ⟨⟨_, .int _⟩, rfl⟩ .nil), by show 2 ≤ 1000000; decide⟩
theorem eqn_pr {H : Hp} {a b : Addr} {q : Wo} (h1 : PrAt H a q) (h2 : PrAt H b q) (g : GF q.1.1) : EqN H 2 (.ref a) (.ref b) := by
  obtain ⟨x, o, e1, e2, e3⟩ := h1
  obtain ⟨y, o', f1, f2, f3⟩ := h2
  exact .inr ⟨a, b, _, _, rfl, rfl, .inl ⟨e1, f1⟩, .cons (eqn_fact e2 f2 g) (.cons (eqn_og e3 f3) .nil), by show 2 ≤ 1000000; decide⟩
theorem eqn_rs {H : Hp} {a b : Addr} {l : List Wo} (h1 : RsAt H a l) (h2 : RsAt H b l) (g : ∀ q ∈ l, GF q.1.1) (hl : l.length ≤ 1000) : EqN H 3 (.ref a) (.ref b) := by
  obtain ⟨as, e1, e2⟩ := h1
  obtain ⟨bs, f1, f2⟩ := h2
  exact .inr ⟨a, b, _, _, rfl, rfl, .inl ⟨e1, f1⟩, eqn_pair e2 f2 fun _ _ x hx r s => eqn_pr r s (g x hx), by rw [List.length_map, Paired.len e2]; omega⟩
theorem eqn_facts2 {H : Hp} {a b : Addr} {fs : List Fc} (h1 : FactsAt H a fs) (h2 : FactsAt H b fs) (g : ∀ f ∈ fs, GF f) (hl : fs.length ≤ 1000) : EqN H 2 (.ref a) (.ref b) := by
  obtain ⟨as, e1, e2⟩ := h1
  obtain ⟨bs, f1, f2⟩ := h2
  exact .inr ⟨a, b, _, _, rfl, rfl, .inl ⟨e1, f1⟩, eqn_pair e2 f2 fun _ _ x hx r s => eqn_fact r s (g x hx), by rw [List.length_map, Paired.len e2]; omega⟩
/-! ### what is told -/
section
variable {H H' : Hp} {v v' : V} {cs : List Cz} {gs : List (List Fc)} {ns : List Nat} {f : Fc} {Dp : List Fc} {F : List Wo}
theorem RsAt.tk {a : Addr} {l : List Wo} (h : RsAt H a l) (t : TK H H') : RsAt H' a l := by
  obtain ⟨as, h1, h2⟩ := h
  exact ⟨as, t _ _ h1, Paired.mapP h2 fun _ _ z => z.tk t⟩
theorem ToldR.tk (h : ToldR H v cs gs ns f) (t : TK H H') : ToldR H' v cs gs ns f := by
  rcases h with h | ⟨d, x, F, e, h1, h2⟩
  · exact .inl h
  · exact .inr ⟨d, x, F, e, h1, h2.tk t⟩
theorem ToldC.tk (h : ToldC H v cs gs ns f) (t : TK H H') : ToldC H' v cs gs ns f := by
  rcases h with h | ⟨d, x, fs, e, h1, h2⟩
  · exact .inl h
  · exact .inr ⟨d, x, fs, e, h1.tk t, h2⟩
theorem der_in (hD : PF Dp cs gs) {g : Fc} (d : Der cs (Gof gs ns) none g) : g ∈ Dp := by
  refine d.closed (S := fun g => g ∈ Dp) (fun f h => ?_) fun i b h e _ _ => (hD.cl _ (List.mem_of_getElem? e)).2
  obtain ⟨n, _, g, hg, hf⟩ := h
  exact hD.gr g (List.mem_of_getElem? hg) f hf
theorem fnd_len (hD : PF Dp cs gs) (hW : FndW cs gs ns F) : F.length ≤ 30 := by
  have z := few_of (ks (wi F)) Dp hW.nd fun g hg => der_in hD ((hW.der g).mp hg)
  have e : (ks (wi F)).length = F.length := by unfold ks wi; simp
  have := hD.dl
  omega
theorem rsn_len (hD : PF Dp cs gs) (hW : FndW cs gs ns F) : (rsn cs F f).length ≤ 30 := by
  unfold rsn
  exact Nat.le_trans (List.length_filter_le _ _) (fnd_len hD hW)
theorem rsn_gf (hG : GR cs gs) (hW : FndW cs gs ns F) : ∀ q ∈ rsn cs F f, GF q.1.1 := fun q hq => by
  unfold rsn at hq
  exact der_gf hG ((hW.der _).mp (mem_kw.mpr ⟨q, (List.mem_filter.mp hq).1, rfl⟩))
theorem all_len (hD : PF Dp cs gs) {fs : List Fc} (h : AllOf cs gs ns fs) : fs.length ≤ 30 := Nat.le_trans (few_of fs Dp h.nd fun g hg => der_in hD ((h.mem g).mp hg)) hD.dl
theorem toldR_eq (hG : GR cs gs) (hD : PF Dp cs gs) (h : ToldR H v cs gs ns f) (h' : ToldR H v' cs gs ns f) : EqN H 3 v v' := by
  rcases h with ⟨d, e⟩ | ⟨d, x, F, e, h1, h2⟩ <;> rcases h' with ⟨d', e'⟩ | ⟨d', x', F', e', h1', h2'⟩
  · subst e e'
    exact EqN.atm .non
  · exact absurd d' d
  · exact absurd d d'
  · subst e e'
    cases h1.uniq h1'
    exact eqn_rs h2 h2' (rsn_gf hG h1) (Nat.le_trans (rsn_len hD h1) (by decide))
theorem toldC_eq (hG : GR cs gs) (hD : PF Dp cs gs) (h : ToldC H v cs gs ns f) (h' : ToldC H v' cs gs ns f) : EqN H 3 v v' := by
  rcases h with ⟨d, e⟩ | ⟨d, x, F, e, h1, h2⟩ <;> rcases h' with ⟨d', e'⟩ | ⟨d', x', F', e', h1', h2'⟩
  · subst e e'
    exact EqN.atm .non
  · exact absurd d d'
  · exact absurd d' d
  · subst e e'
    have ef : F = F' := up_uniq h2.up h2'.up h2.nd h2'.nd fun g => by rw [h2.mem, h2'.mem]
    subst ef
    exact (eqn_facts2 h1 h1' (fun g hg => der_gf hG ((h2.mem g).mp hg)) (Nat.le_trans (all_len hD h2) (by decide))).up
end
end L2.My
end
section
set_option Elab.async false
set_option linter.all false
set_option maxRecDepth 100000
set_option maxHeartbeats 4000000
/-! Expressions that make things, as k50 has them. -/
namespace L2.My
open PySem PySem.Spec PyProof.Rows
section
variable {b g : Addr} {P : Hp → Prop} {σ : St}
theorem gt_dct : GT b g P σ tDNewK := fun H Q hB _ q p np => by
  have s := same_upd (o := HO.dK []) np
  exact q _ _ (.same s) (hB.same s) (.dct upd_same (hB.nb np))
theorem gt_pow : GT b g P σ (tOp (rI CPow fun i j => .int (i ^ j.toNat)) (tC (.int 10)) (tC (.int 12))) := fun H Q hB _ q => ⟨_, _, rfl, rfl, ⟨by decide, by decide, by decide⟩, q H _ .refl hB (.int _)⟩
theorem gt_neg : GT b g P σ (tUn (rU fun i => .int (-i)) (tC (.int 1))) := fun H Q hB _ q => ⟨_, rfl, q H _ .refl hB (.int _)⟩
def GB (b g : Addr) (P : Hp → Prop) (σ : St) (n : Nat) (ta : TA) : Prop := ∀ H (Q : List V → Hp → Prop), HandAt H b g → P H → (∀ H' vs, BL [b] H H' → HandAt H' b g → (∀ v ∈ vs, Thg b H' v) → vs.length ≤ n → Q vs H') → ta σ H Q
theorem gb_nil {n : Nat} : GB b g P σ n tNil := fun H Q hB _ q => q H [] .refl hB (by simp) (Nat.zero_le _)
theorem gb_cons {n : Nat} {te : TE} {ta : TA} (st : Stb b P) (h1 : GT b g P σ te) (h2 : GB b g P σ n ta) : GB b g P σ (n + 1) (tCons te ta) := fun H Q hB p q =>
  h1 H _ hB p fun H1 v bl1 hB1 t1 => h2 H1 _ hB1 (st _ _ p bl1) fun H2 vs bl2 hB2 t2 hl => q H2 (v :: vs) (bl1.trans bl2) hB2 (fun u hu => by
    rcases List.mem_cons.mp hu with z | z
    · rw [z]; exact t1.bl bl2
    · exact t2 u z) (by rw [List.length_cons]; omega)
theorem gt_tupB {ta : TA} (h : GB b g P σ 900 ta) : GT b g P σ (tTup ta) := fun H Q hB p q =>
  h H _ hB p fun H1 vs bl1 hB1 t1 hl => ⟨Nat.le_trans (show vs.length ≤ 1000 by omega) (by decide), fun a na => by
    have s := same_upd (o := HO.tup vs) na
    exact q _ _ (bl1.trans (.same s)) (hB1.same s) (.tup upd_same (hB1.nb na) (by omega) fun v hv => (t1 v hv).same s)⟩
theorem gt_lstB {ta : TA} (h : GB b g P σ 900 ta) : GT b g P σ (tLst ta) := fun H Q hB p q =>
  h H _ hB p fun H1 vs bl1 hB1 t1 hl => ⟨Nat.le_trans (show vs.length ≤ 1000 by omega) (by decide), fun a na => by
    have s := same_upd (o := HO.lst vs) na
    exact q _ _ (bl1.trans (.same s)) (hB1.same s) (.lst upd_same (hB1.nb na))⟩
theorem gl_lst' {n : Nat} {ta : TA} (h : GA b g P σ n ta) (hn : n ≤ 1000) : GL b g P σ n (tLst ta) := gl_lst hn h
theorem tt (b : Addr) : Stb b fun _ => True := fun _ _ _ _ => trivial
end
theorem Thg.put {b l : Addr} {H : Hp} {v : V} {xs ys : List V} (h : Thg b H v) (hl : H l = some (.lst xs)) : Thg b (upd H l (.lst ys)) v := by
  have th : ∀ {v : V} {t : String}, ThT H v t → ThT (upd H l (.lst ys)) v t := fun {v t} h => by
    cases h with
    | non => exact .non
    | bl c => exact .bl c
    | int i => exact .int i
    | str x => exact .str x
    | @lst a zs h =>
      by_cases e : a = l
      · subst e; exact .lst upd_same
      · exact .lst (by rw [upd_ne e]; exact h)
    | @tup a zs h =>
      have e : a ≠ l := fun z => by rw [z, hl] at h; cases h
      exact .tup (by rw [upd_ne e]; exact h)
    | @dct a zs h =>
      have e : a ≠ l := fun z => by rw [z, hl] at h; cases h
      exact .dct (by rw [upd_ne e]; exact h)
  have s0 : ∀ {v : V}, Sh0 b H v → Sh0 b (upd H l (.lst ys)) v := fun {v} ⟨⟨t, h1⟩, h2⟩ => ⟨⟨t, th h1⟩, h2⟩
  intro n
  have := h n
  clear h
  induction n generalizing v with
  | zero => exact s0 this
  | succ n ih =>
    refine ⟨s0 this.1, fun a zs e ea => ?_⟩
    have ne : a ≠ l := fun z => by rw [z, upd_same] at ea; cases ea
    rw [upd_ne ne] at ea
    obtain ⟨q1, q2⟩ := this.2 a zs e ea
    exact ⟨q1, fun x hx => ih (q2 x hx)⟩
/-- an expression that makes a tuple of things -/
def GU (b g : Addr) (P : Hp → Prop) (σ : St) (n : Nat) (te : TE) : Prop := ∀ H (Q : VK), HandAt H b g → P H → (∀ H' a vs, BL [b] H H' → HandAt H' b g → H' a = some (.tup vs) → (∀ v ∈ vs, Thg b H' v) → vs.length ≤ n → Q (.ref a) H') → te σ H Q
theorem HandAt.nt {H : Hp} {b g : Addr} (h : HandAt H b g) : NoTup H b := fun xs e => by
  obtain ⟨_, _, _, _, _, h1, _⟩ := h
  rw [h1] at e; cases e
section
variable {K : PySem.W.Frag} {b g : Addr} {P : Hp → Prop} {σ : St}
theorem gu_gt {n : Nat} {te : TE} (h : GU b g P σ n te) (hn : n ≤ 5000) : GT b g P σ te := fun H Q hB p q => h H _ hB p fun H1 a vs bl hB1 ha ht hl => q H1 _ bl hB1 (.tup ha (hB1.nt.ne ha) (by omega) ht)
theorem gu_mono {n m : Nat} {te : TE} (h : GU b g P σ n te) (hn : n ≤ m) : GU b g P σ m te := fun H Q hB p q => h H _ hB p fun H1 a vs bl hB1 ha ht hl => q H1 a vs bl hB1 ha ht (by omega)
theorem gu_var {i n : Nat} {a : Addr} {vs : List V} (e : σ[i]? = some (some (.ref a))) (h : ∀ H, P H → H a = some (.tup vs) ∧ ∀ v ∈ vs, Thg b H v) (hn : vs.length ≤ n) : GU b g P σ n (tVar i) := fun H Q hB p q => ⟨_, e, q H a vs .refl hB (h H p).1 (h H p).2 hn⟩
theorem gu_tup1 {te : TE} (h : GT b g P σ te) : GU b g P σ 1 (tTup (tCons te tNil)) := fun H Q hB p q => h H _ hB p fun H1 v bl hB1 tv => ⟨by show 1 ≤ sizeLine; decide, fun a na => by
  have s := same_upd (o := HO.tup [v]) na
  exact q _ a [v] (bl.trans (.same s)) (hB1.same s) upd_same (fun x hx => by rw [List.mem_singleton.mp hx]; exact tv.same s) (Nat.le_refl 1)⟩
theorem gu_cat {n m : Nat} {t1 t2 : TE} (st : Stb b P) (h1 : GU b g P σ n t1) (h2 : GU b g P σ m t2) (hnm : n + m ≤ 100000) : GU b g P σ (n + m) (tOp (rCatA K) t1 t2) := fun H Q hB p q =>
  h1 H _ hB p fun H1 a vs bl1 hB1 ha tv hl => h2 H1 _ hB1 (st _ _ p bl1) fun H2 c ws bl2 hB2 hc tw hm => by
    have ha2 := bl2 _ _ (by simpa using hB1.nt.ne ha) ha
    have tv2 : ∀ v ∈ vs, Thg b H2 v := fun v hv => (tv v hv).bl bl2
    refine ⟨a, c, vs, ws, rfl, rfl, .of ha2, .of hc, Nat.le_trans (show vs.length + ws.length ≤ 100000 by omega) (by decide), fun _ => q _ c ws (bl1.trans bl2) hB2 hc tw (by omega), fun _ _ => q _ a vs (bl1.trans bl2) hB2 ha2 tv2 (by omega), fun _ _ x nx => ?_⟩
    have s := same_upd (o := HO.tup (vs ++ ws)) nx
    refine q _ x (vs ++ ws) ((bl1.trans bl2).trans (.same s)) (hB2.same s) upd_same (fun v hv => ?_) (by rw [List.length_append]; omega)
    rcases List.mem_append.mp hv with z | z
    · exact (tv2 v z).same s
    · exact (tw v z).same s
theorem cut_mem {xs : List V} {lo hi : Option Int} {v : V} (h : v ∈ cutV xs lo hi) : v ∈ xs := List.mem_of_mem_drop (List.mem_of_mem_take h)
theorem cut_len {xs : List V} {lo hi : Option Int} : (cutV xs lo hi).length ≤ xs.length := by
  unfold cutV
  rw [List.length_take, List.length_drop]
  omega
theorem gu_slc {n : Nat} {te : TE} {lo hi : Option Int} (h : GU b g P σ n te) {tl th : TO} (hl : ∀ H (Q : Option Int → Hp → Prop), Q lo H → tl σ H Q) (hh : ∀ H (Q : Option Int → Hp → Prop), Q hi H → th σ H Q) : GU b g P σ n (tSl (rSlA K) te tl th) := fun H Q hB p q =>
  h H _ hB p fun H1 a vs bl1 hB1 ha tv hlen => hl _ _ (hh _ _ ⟨a, vs, rfl, .of ha, fun _ => q _ a vs bl1 hB1 ha tv hlen, fun _ x nx => by
    have s := same_upd (o := HO.tup (cutV vs lo hi)) nx
    exact q _ x _ (bl1.trans (.same s)) (hB1.same s) upd_same (fun v hv => (tv v (cut_mem hv)).same s) (Nat.le_trans cut_len hlen)⟩)
theorem to_no (H : Hp) (Q : Option Int → Hp → Prop) (q : Q none H) : tNoPart σ H Q := q
theorem to_var {i : Nat} {n : Int} (e : σ[i]? = some (some (.int n))) (H : Hp) (Q : Option Int → Hp → Prop) (q : Q (some n) H) : tPart (tVar i) σ H Q := ⟨_, e, n, rfl, q⟩
theorem gu_rep {te : TE} {k : Int} (h : GT b g P σ te) (h2 : 2 ≤ k) (hk : k ≤ 1000) : GU b g P σ k.toNat (tOp (rRepT K) (tTup (tCons te tNil)) (tC (.int k))) := fun H Q hB p q =>
  h H _ hB p fun H1 v bl hB1 tv => ⟨by show 1 ≤ sizeLine; decide, fun a na => by
    have s := same_upd (o := HO.tup [v]) na
    refine ⟨a, k, [v], rfl, rfl, .of upd_same, by simp, h2, hk, by show 1 ≤ 1000; decide, fun x nx => ?_⟩
    have s2 := same_upd (o := HO.tup (List.replicate k.toNat [v]).flatten) nx
    refine q _ x _ (bl.trans (.same (s.trans s2))) (hB1.same (s.trans s2)) upd_same (fun u hu => ?_) ?_
    · obtain ⟨l, hl, hu⟩ := List.mem_flatten.mp hu
      rw [(List.mem_replicate.mp hl).2, List.mem_singleton] at hu
      rw [hu]
      exact tv.same (s.trans s2)
    · rw [List.length_flatten, List.map_replicate]
      simp⟩
theorem gu_ix {i n : Nat} {j : Int} {p0 a : Addr} {xs vs : List V} (e : σ[i]? = some (some (.ref p0))) (h : ∀ H, P H → H p0 = some (.tup xs) ∧ H a = some (.tup vs) ∧ ∀ v ∈ vs, Thg b H v) (hj : atI xs j = some (.ref a)) (hn : vs.length ≤ n) : GU b g P σ n (tOp (rIxT K) (tVar i) (tC (.int j))) := fun H Q hB p q =>
  ⟨_, e, p0, xs, j, _, rfl, rfl, .of (h H p).1, hj, q H a vs .refl hB (h H p).2.1 (h H p).2.2 hn⟩
theorem gu_ixl {i k n : Nat} {j : Int} {p0 a : Addr} {xs vs : List V} (e : σ[i]? = some (some (.ref p0))) (ek : σ[k]? = some (some (.int j))) (h : ∀ H, P H → H p0 = some (.lst xs) ∧ H a = some (.tup vs) ∧ ∀ v ∈ vs, Thg b H v) (hj : atI xs j = some (.ref a)) (hn : vs.length ≤ n) : GU b g P σ n (tOp (rIxL K) (tVar i) (tVar k)) := fun H Q hB p q =>
  ⟨_, e, _, ek, p0, xs, j, _, rfl, rfl, .of (h H p).1, hj, q H a vs .refl hB (h H p).2.1 (h H p).2.2 hn⟩
theorem gt_listof {n : Nat} {te : TE} (h : GU b g P σ n te) : GT b g P σ (tCB (fun xs H Q => ∃ p ys, xs = [V.ref p] ∧ (SqL K H p ys ∨ SqT K H p ys) ∧ ∀ l, H l = none → Q (V.ref l) (upd H l (HO.lst ys))) (tCons te tNil)) := fun H Q hB p q =>
  h H _ hB p fun H1 a vs bl hB1 ha tv hl => ⟨a, vs, rfl, .inr (.of ha), fun l nl => by
    have s := same_upd (o := HO.lst vs) nl
    exact q _ _ (bl.trans (.same s)) (hB1.same s) (.lst upd_same (hB1.nb nl))⟩
theorem gt_any {n : Nat} {te : TE} (e : σ[0]? = some (some (.ref b))) (h : GL b g P σ n te) (h0 : 0 < n) (hn : n ≤ 1000) : GT b g P σ (tCall spAny [] E0 (tCons (tVar 0) (tCons te tNil))) := fun H Q hB p q =>
  ⟨_, e, h H _ hB p fun H1 l vs bl hB1 nl hl tv hlen => ⟨b, g, l, vs, rfl, hB1, hl, hB.nb nl, (fun z => by rw [z] at hlen; simp at hlen; omega), by omega, fun H2 v bl2 hB2 hv => q H2 v (bl.trans bl2) hB2 ((tv v hv).bl bl2)⟩⟩
end
theorem stb_bl (b : Addr) (H0 : Hp) : Stb b fun G => BL [b] H0 G := fun _ _ h s => h.trans s
theorem ixN_nat {n j : Nat} (h : j < n) : ixN n (j : Int) = some j := by
  unfold ixN
  rw [if_pos (by omega), if_pos (by omega)]
  simp
end L2.My
end
section
set_option Elab.async false
set_option linter.all false
set_option maxRecDepth 100000
set_option maxHeartbeats 8000000
/-! Reasons with something otherwise. -/
namespace L2.My
open PySem PySem.Spec PyProof.Rows
abbrev sBr : Stmt := top 53
abbrev nBr : List Str := ["hand", "parts", "thing", "rows", "kind", "at", "other", "one", "told"]
def spBr : Sp := fun vs H Q _ => ∃ (b g p t : Addr) (cs : List Cz) (gs : List (List Fc)) (L : List Wo), vs = [.ref b, .ref p, .ref t] ∧ HandAt H b g ∧ PtAt H p cs gs ∧ GR cs gs ∧ RsAt H t L ∧ L ≠ [] ∧ L.length ≤ 1000 ∧ (∀ q ∈ L, GF q.1.1) ∧
  ∀ H' v, BL [b] H H' → HandAt H' b g → Thg b H' v → Q v H'
theorem PtAt.bl {H H' : Hp} {b g p : Addr} {cs : List Cz} {gs : List (List Fc)} (h : PtAt H p cs gs) (hb : HandAt H b g) (s : BL [b] H H') : PtAt H' p cs gs := by
  have tk := hb.tk s
  obtain ⟨ca, ga, h1, h2, h3⟩ := h
  exact ⟨ca, ga, tk _ _ h1, h2.tk tk, h3.tk tk⟩
/-- the rows, as they stand -/
structure BrI (b g l : Addr) (H G : Hp) (xs : List V) : Prop where
  bl : BL [b] H G
  hb : HandAt G b g
  h1 : G l = some (.lst xs)
  t1 : ∀ x ∈ xs, Thg b G x
  n1 : xs.length ≤ 1500
theorem BrI.step {b g l : Addr} {H G G' : Hp} {xs : List V} (h : BrI b g l H G xs) (e : l ≠ b) (s : BL [b] G G') (hb : HandAt G' b g) : BrI b g l H G' xs :=
  ⟨h.bl.trans s, hb, s _ _ (by simpa using e) h.h1, fun x hx => (h.t1 x hx).bl s, h.n1⟩
theorem BrI.put {b g l : Addr} {H G : Hp} {xs ys : List V} (h : BrI b g l H G xs) (nl : H l = none) (e : l ≠ b) (eg : l ≠ g) (hy : ∀ y ∈ ys, Thg b G y) (ny : ys.length ≤ 1500) : BrI b g l H (L2.upd G l (.lst ys)) ys :=
  ⟨BL.put h.bl nl, h.hb.put e eg, upd_same, fun y hm => (hy y hm).put h.h1, ny⟩
theorem BrI.set {b g l : Addr} {H G : Hp} {xs : List V} {n : Nat} {v : V} (h : BrI b g l H G xs) (nl : H l = none) (e : l ≠ b) (eg : l ≠ g) (tv : Thg b G v) : BrI b g l H (L2.upd G l (.lst (xs.set n v))) (xs.set n v) :=
  h.put nl e eg (fun y hy => by
    rcases List.mem_or_eq_of_mem_set hy with z | z
    · exact h.t1 y z
    · rw [z]; exact tv) (by rw [List.length_set]; exact h.n1)
section
variable {K : PySem.W.Frag} {b g : Addr} {P : Hp → Prop} {σ : St}
theorem gt_draw {m : Int} (e : σ[0]? = some (some (.ref b))) (h0 : 0 < m) (h1 : m < 1073741824) : GT b g P σ (tCall spDraw [] E0 (tCons (tVar 0) (tCons (tC (.int m)) tNil))) := fun H Q hB _ q =>
  ⟨_, e, b, g, m, rfl, hB, h0, h1, fun H' r bl hB' _ _ => q H' _ bl hB' (.int r)⟩
theorem gt_asked {p : Addr} {cs : List Cz} {gs : List (List Fc)} (e : σ[0]? = some (some (.ref b))) (e1 : σ[1]? = some (some (.ref p))) (hG : GR cs gs) (h : ∀ G, P G → PtAt G p cs gs) : GT b g P σ (tCall spAskd [] E0 (tCons (tVar 0) (tCons (tVar 1) tNil))) := fun H Q hB hP q =>
  ⟨_, e, _, e1, b, g, p, cs, gs, rfl, hB, h H hP, hG, fun H' a f bl hB' hf gf => q H' _ bl hB' (thg_fact hB'.nt hf gf)⟩
/-- a part of a tuple -/
theorem gt_ixt {i : Nat} {j : Int} {a : Addr} {vs : List V} {v : V} (e : σ[i]? = some (some (.ref a))) (h : ∀ G, P G → G a = some (.tup vs) ∧ Thg b G v) (hj : atI vs j = some v) : GT b g P σ (tOp (rIxT K) (tVar i) (tC (.int j))) := fun H Q hB p q =>
  ⟨_, e, a, vs, j, v, rfl, rfl, .of (h H p).1, hj, q H v .refl hB (h H p).2⟩
/-- an item of a list -/
theorem gt_ixl0 {i : Nat} {j : Int} {a : Addr} {vs : List V} {v : V} (e : σ[i]? = some (some (.ref a))) (h : ∀ G, P G → G a = some (.lst vs) ∧ Thg b G v) (hj : atI vs j = some v) : GT b g P σ (tOp (rIxL K) (tVar i) (tC (.int j))) := fun H Q hB p q =>
  ⟨_, e, a, vs, j, v, rfl, rfl, .of (h H p).1, hj, q H v .refl hB (h H p).2⟩
theorem gt_upper {i : Nat} {a : Addr} {vs : List V} {z : Str} (e : σ[i]? = some (some (.ref a))) (h : ∀ G, P G → G a = some (.tup vs)) (hj : atI vs 0 = some (.str z)) (hz : z.length ≤ 1000) : GT b g P σ (tM0 (fun x xs H Q => ∃ a, x = .str a ∧ xs = [] ∧ a.length ≤ 5592405 ∧ Q (.str (Txt.upper a)) H) (tOp (rIxT K) (tVar i) (tC (.int 0)))) := fun H Q hB p q =>
  ⟨_, e, a, vs, 0, _, rfl, rfl, .of (h H p), hj, ⟨z, rfl⟩, z, rfl, rfl, by omega, q H _ .refl hB (.str _ (by have := PyProof.Rows.len_upper z; omega))⟩
theorem to_c {n : Int} (H : Hp) (Q : Option Int → Hp → Prop) (q : Q (some n) H) : tPart (tC (.int n)) σ H Q := ⟨n, rfl, q⟩
end
end L2.My
end
section
set_option Elab.async false
set_option linter.all false
set_option maxRecDepth 100000
set_option maxHeartbeats 16000000
/-! A closed collection with something otherwise. -/
namespace L2.My
open PySem PySem.Spec PyProof.Rows
abbrev sBc : Stmt := top 54
abbrev nBc : List Str := ["hand", "parts", "thing", "fact", "rows", "kind", "more", "odd", "one"]
def spBc : Sp := fun vs H Q _ => ∃ (b g p t a : Addr) (cs : List Cz) (gs : List (List Fc)) (Dp fs : List Fc) (f : Fc), vs = [.ref b, .ref p, .ref t, .ref a] ∧ HandAt H b g ∧ PtAt H p cs gs ∧ GR cs gs ∧ PF Dp cs gs ∧ FactsAt H t fs ∧ (∀ f ∈ fs, GF f) ∧ fs.length ≤ 40 ∧ FactAt H a f ∧ GF f ∧
  ∀ H' v, BL [b] H H' → HandAt H' b g → Thg b H' v → Q v H'
theorem gu_ixl0 {K : PySem.W.Frag} {b g : Addr} {P : Hp → Prop} {σ : St} {i n : Nat} {j : Int} {p0 a : Addr} {xs vs : List V} (e : σ[i]? = some (some (.ref p0))) (h : ∀ H, P H → H p0 = some (.lst xs) ∧ H a = some (.tup vs) ∧ ∀ v ∈ vs, Thg b H v) (hj : atI xs j = some (.ref a)) (hn : vs.length ≤ n) : GU b g P σ n (tOp (rIxL K) (tVar i) (tC (.int j))) := fun H Q hB p q =>
  ⟨_, e, p0, xs, j, _, rfl, rfl, .of (h H p).1, hj, q H a vs .refl hB (h H p).2.1 (h H p).2.2 hn⟩
theorem gt_rev {K : PySem.W.Frag} {b g : Addr} {P : Hp → Prop} {σ : St} {i : Nat} {l : Addr} {xs : List V} (e : σ[i]? = some (some (.ref l))) (h : ∀ G, P G → G l = some (.lst xs)) : GT b g P σ (tRevL K (tVar i)) := fun H Q hB p q =>
  ⟨_, e, l, xs, rfl, SqL.of (h H p), fun x nx => by
    have s := same_upd (o := HO.lst xs.reverse) nx
    exact q _ _ (.same s) (hB.same s) (.lst upd_same (hB.nb nx))⟩
section
variable {P : Program} {w : World} {K : PySem.W.Frag} {mg : Str → Option Value} {base : Heap}
theorem scBc : FnScope nBc ["hand", "parts", "thing", "fact"] (defScope sBc) := ⟨rfl, rfl, rfl, by decide +kernel, rfl, by decide +kernel, by decide +kernel⟩
theorem ok_bentC {f : Addr} {fd : FuncData} {k : Nat} (F : Fun K "_law_bent_closed" "_law_bent_closed" sBc f fd) (T : Tx mg) (cD : Cal P w K mg base (k + 4) "_law_draw" ["hand", "many"] spDraw) (cA : Cal P w K mg base (k + 4) "_law_any" ["hand", "items"] spAny) (cK : Cal P w K mg base (k + 4) "_law_asked" ["hand", "parts"] spAskd) (cN : Cal P w K mg base (k + 4) "_law_nested" ["hand"] spNest) (cFs : Cal P w K mg base (k + 4) "_law_facts" ["parts"] spFacs) : FnOk P w K mg base CX0 (k + 5) f fd ["hand", "parts", "thing", "fact"] spBc := by
  refine F.ok scBc (fun vs H Q E h => ?_) (fun cdv A outer s H vs Q E hr h => ?_)
  · obtain ⟨b, g, p, t, a, cs, gs, Dp, fs, f, rfl, _⟩ := h
    rfl
  · obtain ⟨b, g, p, t, a, cs, gs, Dp, fs, f, rfl, hB, hp, hG, hD, hT, hTg, hTl, hf, gf, q⟩ := h
    refine ⟨_, (pss_cons (ps_par (i := 4) (j := 5) rfl scBc.nd rfl rfl (by decide) rfl rfl (pa_cons (pe_callTy call_list_of (by rfl) T.list_ (by decide +kernel) (pa_cons (pv 2) pa_nil)) (pa_cons (pe_c cD hr (by omega) (by rfl) (pa_cons (pv 0) (pa_cons pe_int pa_nil))) pa_nil)) rfl) (pss_cons (ps_set (i := 6) scBc.nd rfl (Or.inl rfl) (pe_c cK hr (by omega) (by rfl) (pa_cons (pv 0) (pa_cons (pv 1) pa_nil)))) (pss_cons (ps_if (pt_and (pt_cmpR op_eq (pv 5) pe_int (nomark _)) (pw_and1 (pt_cmpR op_gt (pe_callB call_len_seq (by rfl) T.len_ PySem.boot_len (pa_cons (pv 4) pa_nil)) pe_int (nomark _)))) (pss_one (ps_expr (pe_bm PySem.F.plainAttrs_list PySem.F.slot_list_pop PySem.F.type_list_pop mt_popAt (pv 4) (pa_cons (pe_c cD hr (by omega) (by rfl) (pa_cons (pv 0) (pa_cons (pe_callB call_len_seq (by rfl) T.len_ PySem.boot_len (pa_cons (pv 4) pa_nil)) pa_nil))) pa_nil)))) (pss_one (ps_if (pt_cmpR op_lt (pv 5) pe_int (nomark _)) (pss_one (ps_set (i := 4) scBc.nd rfl (Or.inl rfl) (pe_callB (cr_sortSF rfl) (by rfl) T.sorted_ (by decide +kernel) (pa_cons (pe_callTy (cr_setF rfl (u64 hr)) (by rfl) T.set_ (by decide +kernel) (pa_cons (pe_op op_cat (pv 4) (pe_lst (pa_cons (pv 6) pa_nil))) pa_nil)) pa_nil)))) (pss_one (ps_if (pt_cmpR op_eq (pv 5) pe_int (nomark _)) (pss_one (ps_set (i := 4) scBc.nd rfl (Or.inl rfl) (pe_callB (cr_sortSF rfl) (by rfl) T.sorted_ (by decide +kernel) (pa_cons (pe_callTy (cr_setF rfl (u64 hr)) (by rfl) T.set_ (by decide +kernel) (pa_cons (pe_op op_cat (pv 4) (pe_lst (pa_cons (pv 3) pa_nil))) pa_nil)) pa_nil)))) (pss_one (ps_if (pt_cmpR op_eq (pv 5) pe_int (nomark _)) (pss_one (ps_set (i := 4) scBc.nd rfl (Or.inl rfl) (pe_op op_cat (pv 4) (pe_lst (pa_cons (pv 6) pa_nil))))) (pss_one (ps_if (pt_cmpR op_eq (pv 5) pe_int (nomark _)) (pss_one (ps_setLc (own := [("one", 8)]) (i := 4) (g := gName 8) (te := tVar 8) (tt := tTest (tOp (rNeD K) (tVar 8) (tVar 3))) rfl scBc.nd rfl rfl (sw_true rfl rfl rfl (by decide +kernel)) (pi_list (pe_c cFs hr (by omega) (by rfl) (pa_cons (pv 1) pa_nil))) (blkOk_by (N := nBc) (sc := defScope sBc) (by decide +kernel)) (fun _ _ _ _ _ => pg_name (i := 8) scBc.nd rfl (Or.inl rfl)) (fun _ _ _ _ _ => (pts_one (pt_cmpR (op_neD (u64 hr)) (pv 8) (pv 3) (nomark _)))) (fun _ _ _ _ _ => (pv 8)))) (pss_one (ps_if (pt_and (pt_cmpR op_eq (pv 5) pe_int (nomark _)) (pw_and1 (pt_cmpR op_gt (pe_callB call_len_seq (by rfl) T.len_ PySem.boot_len (pa_cons (pv 4) pa_nil)) pe_int (nomark _)))) (pss_cons (ps_set (i := 7) scBc.nd rfl (Or.inl rfl) (pe_c cA hr (by omega) (by rfl) (pa_cons (pv 0) (pa_cons (pe_lst (pa_cons pe_non (pa_cons (pe_callTy call_list_of (by rfl) T.list_ (by decide +kernel) (pa_cons (pe_ix ix_list (pv 4) pe_int (fun _ _ => rfl)) pa_nil)) (pa_cons (pe_tup (pa_cons pe_str pa_nil)) (pa_cons (pe_tup (pa_cons pe_str (pa_cons pe_bl pa_nil))) (pa_cons (pe_tup (pa_cons pe_str (pa_cons (pe_un un_neg pe_int) pa_nil))) (pa_cons (pe_tup (pa_cons pe_str (pa_cons (pe_op op_pow pe_int pe_int) pa_nil))) (pa_cons pe_str (pa_cons (pe_tup pa_nil) pa_nil))))))))) pa_nil)))) (pss_one (ps_asg (pv 7) (pg_sub (pv 4) (pe_c cD hr (by omega) (by rfl) (pa_cons (pv 0) (pa_cons (pe_callB call_len_seq (by rfl) T.len_ PySem.boot_len (pa_cons (pv 4) pa_nil)) pa_nil))) set_list)))) (pss_one (ps_if (pt_cmpR op_eq (pv 5) pe_int (nomark _)) (pss_one (ps_ret (pe_c cA hr (by omega) (by rfl) (pa_cons (pv 0) (pa_cons (pe_lst (pa_cons (pv 4) (pa_cons pe_non (pa_cons pe_dnewK (pa_cons pe_str (pa_cons (pe_c cN hr (by omega) (by rfl) (pa_cons (pv 0) pa_nil)) (pa_cons (pe_revL (pv 4)) pa_nil))))))) pa_nil))))) pss_nil))))))))))))) (pss_one (ps_ret (pe_tupleOf (by rfl) T.tuple_ (pv 4))))))), ?_⟩
    obtain ⟨as, ht, hap⟩ := id hT
    have la := Paired.len hap
    have tt0 := thg_facts hB.nt hT hTg (by omega)
    refine seq_par ⟨_, rfl, t, _, rfl, .inr (.of ht), fun l nl => ?_⟩
    have s1 := same_upd (o := HO.lst (as.map V.ref)) nl
    have el := hB.nb nl
    have elg := hB.ng nl
    refine ⟨_, rfl, b, g, 9, rfl, hB.same s1, by decide, by decide, fun H2 kd bl2 hB2 _ _ => ⟨_, _, rfl, ?_⟩⟩
    have si2 : BrI b g l H H2 (as.map V.ref) := BrI.step (G := upd H l (.lst (as.map V.ref))) ⟨.same s1, hB.same s1, upd_same, fun x hx => ((tt0.sub ht).2 x hx).same s1, by rw [List.length_map]; omega⟩ el bl2 hB2
    have hp2 := hp.bl hB si2.bl
    try dsimp only
    refine seq_set ⟨_, rfl, _, rfl, b, g, p, cs, gs, rfl, hB2, hp2, hG, fun H4 mo mf bl4 hB4 hmo gmo => ?_⟩
    have si4 := si2.step el bl4 hB4
    have tk4 := hB.tk si4.bl
    have hp4 := hp2.bl hB2 bl4
    have hap4 : Paired (FactAt H4) as fs := Paired.mapP hap fun _ _ z => FactAt.tk z tk4
    have hf4 := hf.tk tk4
    clear s1 bl2 si2 hB2 hp2
    have nt4 := hB4.nt
    have tmo : Thg b H4 (.ref mo) := thg_fact nt4 hmo gmo
    have st := stb_bl b H4
    try dsimp only
    refine seq_use (fun σ G => ∃ (l' : Addr) (xs : List V) (y5 y6 y7 y8 : Option V), σ = [some (.ref b), some (.ref p), some (.ref t), some (.ref a), some (.ref l'), y5, y6, y7, y8] ∧ BrI b g l' H G xs) ?_ (fun hrest => ?_)
    · rintro σ G ⟨l', xs, y5, y6, y7, y8, rfl, si⟩
      refine ⟨_, rfl, .inl ⟨l', xs, rfl, SqL.of si.h1, fun t1 nt1 => ?_⟩⟩
      have u1 := same_upd (o := HO.tup xs) nt1
      exact q _ _ (si.bl.trans (.same u1)) (si.hb.same u1) (.tup upd_same (si.hb.nb nt1) (by have := si.n1; omega) fun x hx => (si.t1 x hx).same u1)
    -- a new list of facts
    have facl : ∀ {G : Hp} {l' : Addr} {bs : List Addr} {ms : List Fc}, Same H4 G → G l' = some (.lst (bs.map V.ref)) → Paired (FactAt G) bs ms → (∀ m ∈ ms, GF m) → bs.length ≤ 1500 → BrI b g l' H G (bs.map V.ref) := fun {G l' bs ms} s h1 h2 h3 h4 => ⟨si4.bl.trans (.same s), hB4.same s, h1, fun x hx => by
      obtain ⟨c, m, rfl, hc, hm⟩ := pair_ref h2 hx
      exact thg_fact (hB4.same s).nt hc (h3 m hm), by rw [List.length_map]; exact h4⟩
    -- the rows and one more, sorted
    have srt : ∀ {x : Addr} {m : Fc} {Qs : VK}, FactAt H4 x m → GF m → (∀ G l' xs, BrI b g l' H G xs → Qs (.ref l') G) → ∀ l2, H4 l2 = none → ∀ l3, (upd H4 l2 (.lst [.ref x])) l3 = none → rSetF K P w [.ref l3] (upd (upd H4 l2 (.lst [.ref x])) l3 (.lst (as.map V.ref ++ [.ref x]))) (fun v G => rSortSF P w [v] G Qs) := fun {x m Qs} hx gm fin l2 n2 l3 n3 => by
      have u1 := same_upd (o := HO.lst [.ref x]) n2
      have u2 := same_upd (o := HO.lst (as.map V.ref ++ [.ref x])) n3
      have u12 := u1.trans u2
      refine ⟨l3, as ++ [x], fs ++ [m], fs ++ [m], rfl, SqL.of (by rw [upd_same, List.map_append]; rfl), Paired.snoc (Paired.mapP hap4 fun _ _ z => u12 _ _ z) (u12 _ _ hx), fun f hf => hf, by rw [List.length_append, List.length_singleton]; omega, fun c L na hL1 hL2 nd => ?_⟩
      have s5 := same_upd (o := SetF P w c L) na
      have gfl : ∀ y ∈ fs ++ [m], GF y := fun y hy => by
        rcases List.mem_append.mp hy with z | z
        · exact hTg y z
        · rw [List.mem_singleton.mp z]; exact gm
      refine ⟨c, L, rfl, upd_same, fun y hy => ⟨s5 _ _ (hL1 y hy).1, (gfl _ (hL1 y hy).2).shp⟩, fun bs' fs' p' hp' hperm hup hn => ?_⟩
      have s6 := same_upd (o := HO.lst (bs'.map V.ref)) hn
      refine fin _ p' _ (facl (ms := fs') (u12.trans (s5.trans s6)) upd_same (Paired.mapP hp' fun _ _ z => s6 _ _ z) (fun y hy => ?_) ?_)
      · obtain ⟨z, hz, rfl⟩ := List.mem_map.mp (hperm.mem_iff.mp hy)
        exact gfl _ (hL1 z hz).2
      · have z := few_of (L.map (·.2)) (fs ++ [m]) nd fun y hy => by
          obtain ⟨z, hz, rfl⟩ := List.mem_map.mp hy
          exact (hL1 z hz).2
        rw [Paired.len hp', hperm.length_eq]
        rw [List.length_append, List.length_singleton] at z
        omega
    have lrow : ∀ x : V, (as.map V.ref).length + [x].length ≤ sizeLine := fun x => by
      rw [List.length_map]
      exact Nat.le_trans (show as.length + 1 ≤ 1000 by omega) (by decide)
    -- behind the first test
    have behind : ∀ {u : TS}, True → True := fun _ => trivial
    clear behind
    refine ⟨_, rfl, rfl, _, rfl, ite2 (fun _ => ⟨_, rfl, l, _, rfl, .inl (SqL.of si4.h1), _, _, rfl, rfl, _, rfl, ite2 (fun hl0 => ?x0) (fun _ => ?y0)⟩) (fun _ => ?z0)⟩
    case x0 =>
      have hl0' := of_decide_eq_true hl0
      rw [List.length_map] at hl0'
      refine ⟨_, rfl, .inl ⟨rfl, _, SqL.of si4.h1⟩, _, rfl, _, rfl, l, _, rfl, .inl (SqL.of si4.h1), b, g, _, rfl, hB4, by rw [List.length_map]; omega, by rw [List.length_map]; omega, fun H5 r bl5 hB5 hr0 hr1 => ?_⟩
      have si5 := si4.step el bl5 hB5
      rw [List.length_map] at hr1
      obtain ⟨n, rfl⟩ : ∃ n : Nat, r = n := ⟨r.toNat, by omega⟩
      have hn : n < as.length := by omega
      refine ⟨l, _, _, n, .ref as[n], rfl, rfl, si5.h1, by omega, by omega, ?_, by rw [List.getElem?_map, List.getElem?_eq_getElem hn]; rfl, ?_⟩
      · have zz := seqIndex_of (k := ((n : Nat) : Int)) (n := (as.map V.ref).length) (by omega) (by rw [List.length_map]; omega)
        rw [zz]; rfl
      · exact hrest _ _ ⟨l, _, _, _, _, _, rfl, si5.put nl el elg (fun y hy => si5.t1 y (List.mem_of_mem_eraseIdx hy)) (Nat.le_trans (List.length_eraseIdx_le _ _) si5.n1)⟩
    all_goals
      refine ⟨_, rfl, _, _, rfl, rfl, _, rfl, ite2 (fun _ => ?_) (fun _ => ⟨_, rfl, rfl, _, rfl, ite2 (fun _ => ?_) (fun _ => ⟨_, rfl, rfl, _, rfl, ite2 (fun _ => ?_) (fun _ => ⟨_, rfl, rfl, _, rfl, ite2 (fun _ => ?_) (fun _ => ⟨_, rfl, rfl, _, rfl, ite2 (fun _ => ⟨_, rfl, l, _, rfl, .inl (SqL.of si4.h1), _, _, rfl, rfl, _, rfl, ite2 (fun hl0 => ?_) (fun _ => ⟨_, rfl, rfl, _, rfl, ite2 (fun _ => ?_) (fun _ => hrest _ _ ⟨l, _, _, _, _, _, rfl, si4⟩)⟩)⟩) (fun _ => ⟨_, rfl, rfl, _, rfl, ite2 (fun _ => ?_) (fun _ => hrest _ _ ⟨l, _, _, _, _, _, rfl, si4⟩)⟩)⟩)⟩)⟩)⟩)⟩
      · exact ⟨_, rfl, _, rfl, by show 1 ≤ sizeLine; decide, fun l2 n2 => ⟨l, l2, _, _, rfl, rfl, (same_upd n2) _ _ si4.h1, upd_same, lrow _, fun l3 n3 => srt hmo gmo (fun G l' xs si => hrest _ _ ⟨l', xs, _, _, _, _, rfl, si⟩) l2 n2 l3 n3⟩⟩
      · exact ⟨_, rfl, _, rfl, by show 1 ≤ sizeLine; decide, fun l2 n2 => ⟨l, l2, _, _, rfl, rfl, (same_upd n2) _ _ si4.h1, upd_same, lrow _, fun l3 n3 => srt hf4 gf (fun G l' xs si => hrest _ _ ⟨l', xs, _, _, _, _, rfl, si⟩) l2 n2 l3 n3⟩⟩
      · refine ⟨_, rfl, _, rfl, by show 1 ≤ sizeLine; decide, fun l2 n2 => ⟨l, l2, _, _, rfl, rfl, (same_upd n2) _ _ si4.h1, upd_same, lrow _, fun l3 n3 => ?_⟩⟩
        have u1 := same_upd (o := HO.lst [.ref mo]) n2
        have u2 := same_upd (o := HO.lst (as.map V.ref ++ [.ref mo])) n3
        have u12 := u1.trans u2
        refine hrest _ _ ⟨l3, _, _, _, _, _, rfl, si4.bl.trans (.same u12), hB4.same u12, upd_same, fun x hx => ?_, by rw [List.length_append, List.length_map, List.length_singleton]; omega⟩
        rcases List.mem_append.mp hx with zz | zz
        · exact (si4.t1 x zz).same u12
        · rw [List.mem_singleton.mp zz]; exact tmo.same u12
      · obtain ⟨ca, ga, hpt, hca, hga⟩ := id hp4
        refine ⟨_, rfl, p, ca, ga, cs, gs, Dp, rfl, hpt, hca, hga, hG, hD, fun H5 l2 as2 fs2 s5 hl2 hp2 hg2 hn2 => ⟨l2, rfl, ⟨_, SqL.of hl2⟩, fun D nD => ?_⟩⟩
        have la2 := Paired.len hp2
        refine lcF (walk_list (xs := as2.map V.ref)) (fun i => if fs2[i]? = some f then none else (as2[i]?).map V.ref) (Nat.lt_of_le_of_lt (show (as2.map V.ref).length ≤ 1000 by rw [List.length_map]; omega) (by decide)) nD (fun _ sm => SqL.of (sm _ _ hl2)) ?_ ?_
        · rintro i y H6 H7 Q' N' hi sm ⟨rfl, hy⟩ hq hno
          obtain ⟨x, hx, rfl⟩ := ref_at hy
          obtain ⟨m, hm, hxm⟩ := Paired.at' hp2 hx
          have s56 := s5.trans sm
          refine ⟨rfl, _, rfl, _, rfl, dF m, dF f, dpF (sm _ _ hxm), dpF (s56 _ _ hf4), shaped_dF (hg2 m (List.mem_of_getElem? hm)), shaped_dF gf, _, rfl, ?_⟩
          rw [show PyData.eqv (dF m) (dF f) = decide (m = f) from eqv_p m f]
          by_cases e : m = f
          · rw [decide_eq_true e]
            refine iteF (hno ?_ _ (Same.refl _))
            rw [hm, e, if_pos rfl]
          · rw [decide_eq_false e]
            refine iteT ⟨_, rfl, hq _ ?_ _ (Same.refl _)⟩
            rw [hm, if_neg (fun z => e (Option.some.inj z)), hx]
            rfl
        · intro H6 sm hd
          refine hrest _ _ ⟨D, _, _, _, _, _, rfl, si4.bl.trans (.same (s5.trans sm)), hB4.same (s5.trans sm), hd, fun x hx => ?_, ?_⟩
          · obtain ⟨i, _, e⟩ := List.mem_filterMap.mp hx
            by_cases e2 : fs2[i]? = some f
            · rw [if_pos e2] at e; cases e
            · rw [if_neg e2] at e
              cases e3 : as2[i]? with
              | none => rw [e3] at e; cases e
              | some c =>
                rw [e3] at e
                cases e
                obtain ⟨m, hm, hxm⟩ := Paired.at' hp2 e3
                exact thg_fact (hB4.same (s5.trans sm)).nt (sm _ _ hxm) (hg2 m (List.mem_of_getElem? hm))
          · refine Nat.le_trans (List.length_filterMap_le _ _) ?_
            rw [List.length_range, List.length_map]; omega
      · have hl0' := of_decide_eq_true hl0
        rw [List.length_map] at hl0'
        have hl1 : 0 < as.length := by omega
        have h0 : (as.map V.ref)[0]? = some (.ref (as[0]'hl1)) := by rw [List.getElem?_map, List.getElem?_eq_getElem hl1]; rfl
        obtain ⟨f0, hf0, hx0⟩ := Paired.at' hap4 (List.getElem?_eq_getElem hl1)
        have gf0 := hTg f0 (List.mem_of_getElem? hf0)
        have t0 := thg_fact nt4 hx0 gf0
        have nx0 := nt4.ne hx0
        have lf0 : (f0.map kV).length ≤ 5 := by
          obtain ⟨z, is, rfl, _, hi4, _⟩ := gf0
          simp; omega
        try dsimp only
        refine seq_set ?_
        refine gt_any (b := b) (g := g) (P := fun G => BL [b] H4 G) (n := 8) rfl (gl_lst' ?_ (by decide)) (by decide) (by decide) H4 _ hB4 .refl fun H5 v bl5 hB5 tv => ?_
        · exact ga_cons st gt_non (ga_cons st (gt_listof (n := 5) (gu_ixl0 (a := as[0]'hl1) rfl (fun G s => ⟨s _ _ (by simpa using el) si4.h1, s _ _ (by simpa using nx0) hx0, fun v hv => ((t0.sub hx0).2 v hv).bl s⟩) (atI_nat (j := 0) h0) lf0)) (ga_cons st (gt_tup (by decide) (ga_cons st (gt_str "A" (by decide)) ga_nil)) (ga_cons st (gt_tup (by decide) (ga_cons st (gt_str "a" (by decide)) (ga_cons st (gt_bl true) ga_nil))) (ga_cons st (gt_tup (by decide) (ga_cons st (gt_str "a" (by decide)) (ga_cons st gt_neg ga_nil))) (ga_cons st (gt_tup (by decide) (ga_cons st (gt_str "a" (by decide)) (ga_cons st gt_pow ga_nil))) (ga_cons st (gt_str "a" (by decide)) (ga_cons st (gt_tup (by decide) ga_nil) ga_nil)))))))
        have si5 := si4.step el bl5 hB5
        refine ⟨_, rfl, _, rfl, _, rfl, _, rfl, l, _, rfl, .inl (SqL.of si5.h1), b, g, _, rfl, hB5, by rw [List.length_map]; omega, by rw [List.length_map]; omega, fun H6 r bl6 hB6 hr0 hr1 => ?_⟩
        have si6 := si5.step el bl6 hB6
        rw [List.length_map] at hr1
        obtain ⟨n, rfl⟩ : ∃ n : Nat, r = n := ⟨r.toNat, by omega⟩
        have hn : n < as.length := by omega
        exact ⟨l, _, _, n, rfl, rfl, si6.h1, ixN_nat (by rw [List.length_map]; exact hn), hrest _ _ ⟨l, _, _, _, _, _, rfl, si6.set nl el elg (tv.bl bl6)⟩⟩
      all_goals
        refine gt_any (b := b) (g := g) (P := fun G => BL [b] H4 G) (n := 6) rfl (gl_lst' ?_ (by decide)) (by decide) (by decide) H4 _ hB4 .refl fun H5 v bl5 hB5 tv => q _ _ (si4.bl.trans bl5) hB5 tv
        exact ga_cons st (gt_var rfl fun G s => .lst (s _ _ (by simpa using el) si4.h1) el) (ga_cons st gt_non (ga_cons st gt_dct (ga_cons st (gt_str "closed" (by decide)) (ga_cons st (gt_nest rfl) (ga_cons st (gt_rev rfl fun G s => s _ _ (by simpa using el) si4.h1) ga_nil)))))
end
end L2.My
end
section
set_option Elab.async false
set_option linter.all false
set_option maxRecDepth 100000
set_option maxHeartbeats 4000000
/-! Some items of a list in a drawn order. -/
namespace L2.My
open PySem PySem.Spec PyProof.Rows
def spMixL : Sp := fun vs H Q _ => ∃ (b g it : Addr) (xs : List V), vs = [.ref b, .ref it] ∧ HandAt H b g ∧ H it = some (.lst xs) ∧ xs.length ≤ 1000 ∧ ∀ H' l ys, BL [b] H H' → HandAt H' b g → H' l = some (.lst ys) → ys.Perm xs → Q (.ref l) H'
section
variable {P : Program} {w : World} {K : PySem.W.Frag} {mg : Str → Option Value} {base : Heap} {C : Addr}
theorem ok_mixL {f : Addr} {fd : FuncData} {k : Nat} (F : Fun K "_law_mixed" "_law_mixed" sMix f fd) (T : Tx mg) (cD : Cal P w K mg base (k + 1) "_law_draw" ["hand", "many"] spDraw) : FnOk P w K mg base CX0 (k + 2) f fd ["hand", "items"] spMixL := by
  refine F.ok scMix (fun vs H Q E h => ?_) (fun cdv A outer s H vs Q E hr h => ?_)
  · obtain ⟨b, g, it, xs, rfl, _⟩ := h
    rfl
  · obtain ⟨b, g, it, xs, rfl, hB, hit, hl, q⟩ := h
    refine ⟨_, (pss_cons (ps_par (i := 2) (j := 3) rfl scMix.nd rfl rfl (by decide) rfl rfl (pa_cons (pe_callTy call_list_of (by rfl) T.list_ (by decide +kernel) (pa_cons (pv 1) pa_nil)) (pa_cons (pe_lst pa_nil) pa_nil)) rfl) (pss_cons (ps_for PassesOwn.never rfl (pi_range1 (by rfl) T.range_ (pa_cons (pe_callB call_len_seq (by rfl) T.len_ PySem.boot_len (pa_cons (pv 2) pa_nil)) pa_nil)) (pg_name (i := 4) scMix.nd rfl (Or.inl rfl)) (pss_one (ps_expr (pe_bm PySem.F.plainAttrs_list PySem.F.slot_list_append PySem.F.type_list_append mt_append (pv 3) (pa_cons (pe_bm PySem.F.plainAttrs_list PySem.F.slot_list_pop PySem.F.type_list_pop mt_popAt (pv 2) (pa_cons (pe_c cD hr (by omega) (by rfl) (pa_cons (pv 0) (pa_cons (pe_callB call_len_seq (by rfl) T.len_ PySem.boot_len (pa_cons (pv 2) pa_nil)) pa_nil))) pa_nil)) pa_nil))))) (pss_one (ps_ret (pv 3))))), ?_⟩
    refine ⟨_, rfl, it, xs, rfl, .inl (SqL.of hit), fun lf nlf => ⟨by decide, fun fn nfn => ⟨_, _, rfl, ?_⟩⟩⟩
    have s1 := same_upd (o := HO.lst xs) nlf
    have s2 := same_upd (o := HO.lst []) nfn
    have s12 := s1.trans s2
    have hlf : (upd (upd H lf (.lst xs)) fn (.lst [])) lf = some (.lst xs) := s2 _ _ upd_same
    have hfn : (upd (upd H lf (.lst xs)) fn (.lst [])) fn = some (.lst []) := upd_same
    have nfnH : H fn = none := s1.free nfn
    have nfl : fn ≠ lf := fun e => by rw [e, upd_same] at nfn; cases nfn
    have hB2 := hB.same s12
    have nlb := hB.nb nlf
    have nlg := hB.ng nlf
    have nfb := hB.nb nfnH
    have nfg := hB.ng nfnH
    generalize hH2 : upd (upd H lf (.lst xs)) fn (.lst []) = H2 at *
    refine ⟨_, rfl, lf, _, rfl, .inl (SqL.of hlf), _, rfl, by omega, by omega, ?_⟩
    rw [Int.toNat_natCast]
    refine for_it (walk_range (lo := 0)) (fun i σ G => ∃ y4, σ = [some (.ref b), some (.ref it), some (.ref lf), some (.ref fn), y4] ∧ BL [b] H G ∧ HandAt G b g ∧ ∃ ls fs, G lf = some (.lst ls) ∧ G fn = some (.lst fs) ∧ (fs ++ ls).Perm xs ∧ ls.length + i = xs.length) ⟨_, rfl, .same s12, hB2, xs, [], hlf, hfn, .refl _, rfl⟩ (fun i σ G _ _ => trivial) ?_ ?_
    · rintro i y σ G G' hi ⟨y4, rfl, bl, hBg, ls, fs, h1, h2, h3, h4⟩ ⟨rfl, rfl⟩
      have lfs : fs.length + ls.length = xs.length := by rw [← h3.length_eq, List.length_append]
      refine ⟨_, rfl, .inl ⟨rfl, _, SqL.of h2⟩, _, rfl, .inl ⟨rfl, _, SqL.of h1⟩, _, rfl, _, rfl, lf, _, rfl, .inl (SqL.of h1), b, g, _, rfl, hBg, by omega, by omega, fun H3 r bl3 hB3 hr0 hr1 => ?_⟩
      have h13 := bl3 _ _ (by simpa using nlb) h1
      have h23 := bl3 _ _ (by simpa using nfb) h2
      obtain ⟨n, rfl⟩ : ∃ n : Nat, r = n := ⟨r.toNat, by omega⟩
      have hn : n < ls.length := by omega
      refine ⟨lf, ls, _, n, ls[n], rfl, rfl, h13, by omega, by omega, ?_, List.getElem?_eq_getElem hn, ?_⟩
      · have z := seqIndex_of (k := ((n : Nat) : Int)) (n := ls.length) (by omega) (by omega)
        rw [z]; rfl
      · have t3 : (upd H3 lf (.lst (ls.eraseIdx n))) fn = some (.lst fs) := by rw [upd_ne nfl]; exact h23
        refine ⟨fn, _, _, rfl, rfl, t3, Nat.lt_of_le_of_lt (show fs.length ≤ 1000 by omega) (by decide), ?_⟩
        refine ⟨_, rfl, BL.put (BL.put (bl.trans bl3) nlf) nfnH, (hB3.put nlb nlg).put nfb nfg, ls.eraseIdx n, fs ++ [ls[n]], ?_, upd_same, ?_, ?_⟩
        · rw [upd_ne (Ne.symm nfl)]; exact upd_same
        · refine List.Perm.trans ?_ h3
          rw [List.append_assoc]
          exact (pick_perm ls n hn).append_left fs
        · rw [List.length_eraseIdx_of_lt hn]; omega
    · rintro σ G ⟨y4, rfl, bl, hBg, ls, fs, h1, h2, h3, h4⟩
      have e0 : ls = [] := List.length_eq_zero_iff.mp (by omega)
      rw [e0, List.append_nil] at h3
      exact ⟨_, rfl, q G fn fs bl hBg h2 h3⟩
end
end L2.My
end
section
set_option Elab.async false
set_option linter.all false
set_option maxRecDepth 100000
set_option maxHeartbeats 16000000
namespace L2.My
open PySem PySem.Spec PyProof.Rows
section
variable {P : Program} {w : World} {K : PySem.W.Frag} {mg : Str → Option Value} {base : Heap}
theorem scBr : FnScope nBr ["hand", "parts", "thing"] (defScope sBr) := ⟨rfl, rfl, rfl, by decide +kernel, rfl, by decide +kernel, by decide +kernel⟩
theorem ok_bentR {f : Addr} {fd : FuncData} {k : Nat} (F : Fun K "_law_bent_reasons" "_law_bent_reasons" sBr f fd) (T : Tx mg) (cD : Cal P w K mg base (k + 4) "_law_draw" ["hand", "many"] spDraw) (cA : Cal P w K mg base (k + 4) "_law_any" ["hand", "items"] spAny) (cK : Cal P w K mg base (k + 4) "_law_asked" ["hand", "parts"] spAskd) (cN : Cal P w K mg base (k + 4) "_law_nested" ["hand"] spNest) : FnOk P w K mg base CX0 (k + 5) f fd ["hand", "parts", "thing"] spBr := by
  refine F.ok scBr (fun vs H Q E h => ?_) (fun cdv A outer s H vs Q E hr h => ?_)
  · obtain ⟨b, g, p, t, cs, gs, L, rfl, _⟩ := h
    rfl
  · obtain ⟨b, g, p, t, cs, gs, L, rfl, hB, hp, hG, hR, hL0, hL1, hLg, q⟩ := h
    refine ⟨_, (pss_cons (ps_par (i := 3) (j := 4) rfl scBr.nd rfl rfl (by decide) rfl rfl (pa_cons (pe_callTy call_list_of (by rfl) T.list_ (by decide +kernel) (pa_cons (pv 2) pa_nil)) (pa_cons (pe_c cD hr (by omega) (by rfl) (pa_cons (pv 0) (pa_cons pe_int pa_nil))) pa_nil)) rfl) (pss_cons (ps_par (i := 5) (j := 6) rfl scBr.nd rfl rfl (by decide) rfl rfl (pa_cons (pe_c cD hr (by omega) (by rfl) (pa_cons (pv 0) (pa_cons (pe_callB call_len_seq (by rfl) T.len_ PySem.boot_len (pa_cons (pv 3) pa_nil)) pa_nil))) (pa_cons (pe_c cD hr (by omega) (by rfl) (pa_cons (pv 0) (pa_cons (pe_callB call_len_seq (by rfl) T.len_ PySem.boot_len (pa_cons (pv 3) pa_nil)) pa_nil))) pa_nil)) rfl) (pss_cons (ps_asg (pe_ix ix_list (pv 3) (pv 5) (fun _ _ => rfl)) (pg_tup rfl (pgs_cons (pg_name (i := 7) scBr.nd rfl (Or.inl rfl)) (pgs_cons (pg_name (i := 8) scBr.nd rfl (Or.inl rfl)) pgs_nil)))) (pss_cons (ps_if (pt_cmpR op_eq (pv 4) pe_int (nomark _)) (pss_one (ps_expr (pe_bm PySem.F.plainAttrs_list PySem.F.slot_list_pop PySem.F.type_list_pop mt_popAt (pv 3) (pa_cons (pv 5) pa_nil)))) (pss_one (ps_if (pt_cmpR op_eq (pv 4) pe_int (nomark _)) (pss_one (ps_expr (pe_bm PySem.F.plainAttrs_list PySem.F.slot_list_insert PySem.F.type_list_insert mt_insert (pv 3) (pa_cons (pv 5) (pa_cons (pe_ix ix_list (pv 3) (pv 6) (fun _ _ => rfl)) pa_nil))))) (pss_one (ps_if (pt_cmpR op_eq (pv 4) pe_int (nomark _)) (pss_one (ps_asg (pe_tup (pa_cons (pe_ix ix_list (pv 3) (pv 6) (fun _ _ => rfl)) (pa_cons (pe_ix ix_list (pv 3) (pv 5) (fun _ _ => rfl)) pa_nil))) (pg_tup rfl (pgs_cons (pg_sub (pv 3) (pv 5) set_list) (pgs_cons (pg_sub (pv 3) (pv 6) set_list) pgs_nil))))) (pss_one (ps_if (pt_cmpR op_eq (pv 4) pe_int (nomark _)) (pss_one (ps_asg (pe_tup (pa_cons (pv 7) (pa_cons (pe_tup (pa_cons (pe_ix ix_tup (pv 8) pe_int (fun _ _ => rfl)) (pa_cons (pe_c cD hr (by omega) (by rfl) (pa_cons (pv 0) (pa_cons pe_int pa_nil))) pa_nil))) pa_nil))) (pg_sub (pv 3) (pv 5) set_list))) (pss_one (ps_if (pt_cmpR op_eq (pv 4) pe_int (nomark _)) (pss_one (ps_asg (pe_tup (pa_cons (pv 7) (pa_cons (pe_tup (pa_cons (pe_c cA hr (by omega) (by rfl) (pa_cons (pv 0) (pa_cons (pe_lst (pa_cons pe_str (pa_cons pe_str (pa_cons pe_str (pa_cons pe_str pa_nil))))) pa_nil))) (pa_cons (pe_ix ix_tup (pv 8) pe_int (fun _ _ => rfl)) pa_nil))) pa_nil))) (pg_sub (pv 3) (pv 5) set_list))) (pss_one (ps_if (pt_cmpR op_eq (pv 4) pe_int (nomark _)) (pss_one (ps_asg (pe_tup (pa_cons (pe_c cK hr (by omega) (by rfl) (pa_cons (pv 0) (pa_cons (pv 1) pa_nil))) (pa_cons (pv 8) pa_nil))) (pg_sub (pv 3) (pv 5) set_list))) (pss_one (ps_if (pt_cmpR op_eq (pv 4) pe_int (nomark _)) (pss_one (ps_asg (pe_tup (pa_cons (pv 7) (pa_cons (pe_c cA hr (by omega) (by rfl) (pa_cons (pv 0) (pa_cons (pe_lst (pa_cons (pe_callTy call_list_of (by rfl) T.list_ (by decide +kernel) (pa_cons (pv 8) pa_nil)) (pa_cons (pe_tup (pa_cons (pe_ix ix_tup (pv 8) pe_int (fun _ _ => rfl)) (pa_cons pe_bl pa_nil))) (pa_cons (pe_tup (pa_cons (pe_ix ix_tup (pv 8) pe_int (fun _ _ => rfl)) (pa_cons pe_non pa_nil))) (pa_cons (pe_op op_catA (pv 8) (pe_tup (pa_cons pe_int pa_nil))) (pa_cons pe_non (pa_cons pe_str pa_nil))))))) pa_nil))) pa_nil))) (pg_sub (pv 3) (pv 5) set_list))) (pss_one (ps_if (pt_cmpR op_eq (pv 4) pe_int (nomark _)) (pss_one (ps_asg (pe_c cA hr (by omega) (by rfl) (pa_cons (pv 0) (pa_cons (pe_lst (pa_cons pe_non (pa_cons (pe_callTy call_list_of (by rfl) T.list_ (by decide +kernel) (pa_cons (pe_ix ix_list (pv 3) (pv 5) (fun _ _ => rfl)) pa_nil)) (pa_cons (pe_tup (pa_cons (pv 7) pa_nil)) (pa_cons (pe_op op_catA (pe_ix ix_list (pv 3) (pv 5) (fun _ _ => rfl)) (pe_tup (pa_cons pe_int pa_nil))) (pa_cons (pe_c cN hr (by omega) (by rfl) (pa_cons (pv 0) pa_nil)) pa_nil)))))) pa_nil))) (pg_sub (pv 3) (pv 5) set_list))) (pss_one (ps_if (pt_cmpR op_eq (pv 4) pe_int (nomark _)) (pss_one (ps_set (i := 3) scBr.nd rfl (Or.inl rfl) (pe_op op_cat (pv 3) (pe_lst (pa_cons (pe_tup (pa_cons (pe_c cK hr (by omega) (by rfl) (pa_cons (pv 0) (pa_cons (pv 1) pa_nil))) (pa_cons (pe_tup (pa_cons (pe_c cA hr (by omega) (by rfl) (pa_cons (pv 0) (pa_cons (pe_lst (pa_cons pe_str (pa_cons pe_str pa_nil))) pa_nil))) (pa_cons (pe_c cD hr (by omega) (by rfl) (pa_cons (pv 0) (pa_cons pe_int pa_nil))) pa_nil))) pa_nil))) pa_nil))))) (pss_one (ps_if (pt_cmpR op_eq (pv 4) pe_int (nomark _)) (pss_one (ps_ret (pe_c cA hr (by omega) (by rfl) (pa_cons (pv 0) (pa_cons (pe_lst (pa_cons (pv 3) (pa_cons (pe_tup pa_nil) (pa_cons pe_non (pa_cons pe_dnewK (pa_cons pe_str (pa_cons (pe_ix ix_list (pv 3) pe_int (fun _ _ => rfl)) (pa_cons (pe_c cN hr (by omega) (by rfl) (pa_cons (pv 0) pa_nil)) pa_nil)))))))) pa_nil))))) (pss_one (ps_if (pt_cmpR op_eq (pv 4) pe_int (nomark _)) (pss_one (ps_asg (pe_tup (pa_cons (pe_op op_catA (pe_tup (pa_cons (pe_upper (pe_ix ix_tup (pv 7) pe_int (fun _ _ => rfl))) pa_nil)) (pe_slice sl_tupA (pv 7) (po_some pe_int) po_none)) (pa_cons (pv 8) pa_nil))) (pg_sub (pv 3) (pv 5) set_list))) (pss_one (ps_if (pt_cmpR op_eq (pv 4) pe_int (nomark _)) (pss_one (ps_asg (pe_tup (pa_cons (pv 7) (pa_cons (pe_tup (pa_cons (pe_ix ix_tup (pv 8) pe_int (fun _ _ => rfl)) (pa_cons (pe_op op_sub (pe_un un_neg pe_int) (pe_ix ix_tup (pv 8) pe_int (fun _ _ => rfl))) pa_nil))) pa_nil))) (pg_sub (pv 3) (pv 5) set_list))) pss_nil))))))))))))))))))))))) (pss_one (ps_ret (pe_tupleOf (by rfl) T.tuple_ (pv 3)))))))), ?_⟩
    obtain ⟨as, ht, hap⟩ := id hR
    have la := Paired.len hap
    have tt0 := thg_rs hB.nt hR hLg (by omega)
    refine seq_par ⟨_, rfl, t, _, rfl, .inr (.of ht), fun l nl => ?_⟩
    have s1 := same_upd (o := HO.lst (as.map V.ref)) nl
    have el := hB.nb nl
    have elg := hB.ng nl
    refine ⟨_, rfl, b, g, 13, rfl, hB.same s1, by decide, by decide, fun H2 kd bl2 hB2 _ _ => ⟨_, _, rfl, ?_⟩⟩
    have si2 : BrI b g l H H2 (as.map V.ref) := BrI.step (G := upd H l (.lst (as.map V.ref))) ⟨.same s1, hB.same s1, upd_same, fun x hx => ((tt0.sub ht).2 x hx).same s1, by rw [List.length_map]; omega⟩ el bl2 hB2
    have hl0 : 0 < as.length := by
      rw [la]
      exact List.length_pos_iff.mpr hL0
    try dsimp only
    refine seq_par ⟨_, rfl, _, rfl, l, _, rfl, .inl (SqL.of si2.h1), b, g, _, rfl, hB2, by rw [List.length_map]; omega, by rw [List.length_map]; omega, fun H3 r bl3 hB3 hr0 hr1 => ?_⟩
    have si3 := si2.step el bl3 hB3
    refine ⟨_, rfl, _, rfl, l, _, rfl, .inl (SqL.of si3.h1), b, g, _, rfl, hB3, by rw [List.length_map]; omega, by rw [List.length_map]; omega, fun H4 r' bl4 hB4 hr0' hr1' => ⟨_, _, rfl, ?_⟩⟩
    have si4 := si3.step el bl4 hB4
    rw [List.length_map] at hr1 hr1'
    obtain ⟨n, rfl⟩ : ∃ n : Nat, r = n := ⟨r.toNat, by omega⟩
    obtain ⟨m, rfl⟩ : ∃ m : Nat, r' = m := ⟨r'.toNat, by omega⟩
    have hn : n < as.length := by omega
    have hm : m < as.length := by omega
    have han : as[n]? = some as[n] := List.getElem?_eq_getElem hn
    have ham : as[m]? = some as[m] := List.getElem?_eq_getElem hm
    have atn : atI (as.map V.ref) (n : Int) = some (.ref as[n]) := atI_nat (by rw [List.getElem?_map, han]; rfl)
    have atm : atI (as.map V.ref) (m : Int) = some (.ref as[m]) := atI_nat (by rw [List.getElem?_map, ham]; rfl)
    have hnl : ∀ v, n < ((as.map V.ref).set m v).length := fun v => by rw [List.length_set, List.length_map]; exact hn
    obtain ⟨q0, hq0, pf, po, hpa, hpf, hpo⟩ := Paired.at' hap han
    have gq0 := hLg q0 (List.mem_of_getElem? hq0)
    have tpa : Thg b H (.ref as[n]) := (tt0.sub ht).2 _ (List.mem_map_of_mem (List.getElem_mem hn))
    have tpm : Thg b H (.ref as[m]) := (tt0.sub ht).2 _ (List.mem_map_of_mem (List.getElem_mem hm))
    have tk4 := hB.tk si4.bl
    have hpa4 := tk4 _ _ hpa
    have hpf4 := hpf.tk tk4
    have hpo4 := hpo.tk tk4
    have hp4 := hp.bl hB si4.bl
    try dsimp only
    refine ⟨_, rfl, _, rfl, l, _, _, .ref as[n], rfl, rfl, .of si4.h1, atn, as[n], _, rfl, .of hpa4, rfl, _, _, rfl, _, _, rfl, rfl, ?_⟩
    clear hB3 si3 bl3 hB2 si2 bl2 s1 bl4
    -- what stands in the rest
    have nt4 := hB4.nt
    have tone : Thg b H4 (.ref pf) := thg_fact nt4 hpf4 gq0
    have ttold : Thg b H4 (.ref po) := thg_og nt4 hpo4
    have tpa4 := tpa.bl si4.bl
    have tpm4 := tpm.bl si4.bl
    have npa := nt4.ne hpa4
    have npf := nt4.ne hpf4
    have npo := nt4.ne hpo4
    obtain ⟨z, is, ef, hz, hi4, _⟩ := gq0
    have lof : (q0.1.1.map kV).length ≤ 5 := by rw [ef]; simp; omega
    have at0 : atI (q0.1.1.map kV) 0 = some (.str z) := by rw [ef]; exact atI_nat (j := 0) rfl
    have st := stb_bl b H4
    have v7 : ∀ {σ : St}, σ[7]? = some (some (.ref pf)) → GT b g (fun G => BL [b] H4 G) σ (tVar 7) := fun e => gt_var e fun G s => tone.bl s
    have u7 : ∀ {σ : St}, σ[7]? = some (some (.ref pf)) → GU b g (fun G => BL [b] H4 G) σ 5 (tVar 7) := fun e => gu_var e (fun G s => ⟨s _ _ (by simpa using npf) hpf4, fun v hv => ((tone.sub hpf4).2 v hv).bl s⟩) lof
    have v8 : ∀ {σ : St}, σ[8]? = some (some (.ref po)) → GT b g (fun G => BL [b] H4 G) σ (tVar 8) := fun e => gt_var e fun G s => ttold.bl s
    have u8 : ∀ {σ : St}, σ[8]? = some (some (.ref po)) → GU b g (fun G => BL [b] H4 G) σ 2 (tVar 8) := fun e => gu_var e (fun G s => ⟨s _ _ (by simpa using npo) hpo4, fun v hv => ((ttold.sub hpo4).2 v hv).bl s⟩) (by show 2 ≤ 2; decide)
    have k0 : ∀ {σ : St}, σ[8]? = some (some (.ref po)) → GT b g (fun G => BL [b] H4 G) σ (tOp (rIxT K) (tVar 8) (tC (.int 0))) := fun e => gt_ixt e (fun G s => ⟨s _ _ (by simpa using npo) hpo4, ((ttold.sub hpo4).2 _ (by simp)).bl s⟩) (atI_nat (j := 0) rfl)
    have k1 : ∀ {σ : St}, σ[8]? = some (some (.ref po)) → GT b g (fun G => BL [b] H4 G) σ (tOp (rIxT K) (tVar 8) (tC (.int 1))) := fun e => gt_ixt e (fun G s => ⟨s _ _ (by simpa using npo) hpo4, .int _⟩) (atI_nat (j := 1) rfl)
    have row : ∀ {σ : St}, σ[3]? = some (some (.ref l)) → σ[5]? = some (some (.int (n : Int))) → GU b g (fun G => BL [b] H4 G) σ 2 (tOp (rIxL K) (tVar 3) (tVar 5)) := fun e e' => gu_ixl e e' (fun G s => ⟨s _ _ (by simpa using el) si4.h1, s _ _ (by simpa using npa) hpa4, fun v hv => ((tpa4.sub hpa4).2 v hv).bl s⟩) atn (by show 2 ≤ 2; decide)
    have askd : ∀ {σ : St}, σ[0]? = some (some (.ref b)) → σ[1]? = some (some (.ref p)) → GT b g (fun G => BL [b] H4 G) σ (tCall spAskd [] E0 (tCons (tVar 0) (tCons (tVar 1) tNil))) := fun e e1 => gt_asked e e1 hG fun G s => hp4.bl hB4 s
    dsimp only [gName]
    refine seq_use (fun σ G => ∃ (l' : Addr) (xs : List V) (y4 y5 y6 y7 y8 : Option V), σ = [some (.ref b), some (.ref p), some (.ref t), some (.ref l'), y4, y5, y6, y7, y8] ∧ BrI b g l' H G xs) ?_ (fun hrest => ?_)
    · rintro σ G ⟨l', xs, y4, y5, y6, y7, y8, rfl, si⟩
      refine ⟨_, rfl, .inl ⟨l', xs, rfl, SqL.of si.h1, fun t1 nt1 => ?_⟩⟩
      have u1 := same_upd (o := HO.tup xs) nt1
      exact q _ _ (si.bl.trans (.same u1)) (si.hb.same u1) (.tup upd_same (si.hb.nb nt1) (by have := si.n1; omega) fun x hx => (si.t1 x hx).same u1)
    have setrow : ∀ {te : TE} {D : Ends} {σ : St}, σ[3]? = some (some (.ref l)) → σ[5]? = some (some (.int (n : Int))) → GT b g (fun G => BL [b] H4 G) σ te → (∀ H5 v, BrI b g l H H5 ((as.map V.ref).set n v) → D.nx σ H5) → tAsg te (gSub (tVar 3) (tVar 5) rSetL) D σ H4 := fun {te D σ} e3 e5 ht hnx => ht H4 _ hB4 .refl fun H5 v bl5 hB5 tv => by
      have si5 := si4.step el bl5 hB5
      exact ⟨_, e3, _, e5, l, _, _, n, rfl, rfl, si5.h1, ixN_nat (by rw [List.length_map]; exact hn), hnx _ v (si5.set nl el elg tv)⟩
    refine ⟨_, rfl, rfl, _, rfl, ite2 (fun _ => ?k0) (fun _ => ⟨_, rfl, rfl, _, rfl, ite2 (fun _ => ?k1) (fun _ => ⟨_, rfl, rfl, _, rfl, ite2 (fun _ => ?k2) (fun _ => ⟨_, rfl, rfl, _, rfl, ite2 (fun _ => ?k3) (fun _ => ⟨_, rfl, rfl, _, rfl, ite2 (fun _ => ?k4) (fun _ => ⟨_, rfl, rfl, _, rfl, ite2 (fun _ => ?k5) (fun _ => ⟨_, rfl, rfl, _, rfl, ite2 (fun _ => ?k6) (fun _ => ⟨_, rfl, rfl, _, rfl, ite2 (fun _ => ?k7) (fun _ => ⟨_, rfl, rfl, _, rfl, ite2 (fun _ => ?k8) (fun _ => ⟨_, rfl, rfl, _, rfl, ite2 (fun _ => ?k9) (fun _ => ⟨_, rfl, rfl, _, rfl, ite2 (fun _ => ?k10) (fun _ => ⟨_, rfl, rfl, _, rfl, ite2 (fun _ => ?k11) (fun _ => hrest _ _ ⟨l, _, _, _, _, _, _, rfl, si4⟩)⟩)⟩)⟩)⟩)⟩)⟩)⟩)⟩)⟩)⟩)⟩)⟩
    case k0 =>
      refine ⟨_, rfl, .inl ⟨rfl, _, SqL.of si4.h1⟩, _, rfl, l, _, _, n, .ref as[n], rfl, rfl, si4.h1, by omega, by omega, ?_, by rw [List.getElem?_map, han]; rfl, ?_⟩
      · have zz := seqIndex_of (k := ((n : Nat) : Int)) (n := (as.map V.ref).length) (by omega) (by rw [List.length_map]; omega)
        rw [zz]; rfl
      · exact hrest _ _ ⟨l, _, _, _, _, _, _, rfl, si4.put nl el elg (fun y hy => si4.t1 y (List.mem_of_mem_eraseIdx hy)) (Nat.le_trans (List.length_eraseIdx_le _ _) si4.n1)⟩
    case k1 =>
      refine ⟨_, rfl, .inl ⟨rfl, _, SqL.of si4.h1⟩, _, rfl, _, rfl, _, rfl, l, _, _, .ref as[m], rfl, rfl, .of si4.h1, atm, l, _, _, _, rfl, rfl, si4.h1, Nat.lt_of_le_of_lt si4.n1 (by decide), by omega, by omega, ?_⟩
      refine hrest _ _ ⟨l, _, _, _, _, _, _, rfl, si4.put nl el elg (fun y hy => ?_) ?_⟩
      · rcases List.mem_append.mp hy with zz | zz
        · rcases List.mem_append.mp zz with zz | zz
          · exact si4.t1 y (List.mem_of_mem_take zz)
          · rw [List.mem_singleton.mp zz]; exact tpm4
        · exact si4.t1 y (List.mem_of_mem_drop zz)
      · simp only [List.length_append, List.length_take, List.length_drop, List.length_map, List.length_cons, List.length_nil]
        omega
    case k2 =>
      refine ⟨_, rfl, _, rfl, l, _, _, .ref as[m], rfl, rfl, .of si4.h1, atm, _, rfl, _, rfl, l, _, _, .ref as[n], rfl, rfl, .of si4.h1, atn, by show 2 ≤ sizeLine; decide, fun tp ntp => ?_⟩
      have s5 := same_upd (o := HO.tup [.ref as[m], .ref as[n]]) ntp
      have si5 := si4.step el (.same s5) (si4.hb.same s5)
      refine ⟨tp, _, rfl, .of upd_same, rfl, _, _, rfl, _, rfl, _, rfl, l, _, _, n, rfl, rfl, si5.h1, ixN_nat (by rw [List.length_map]; exact hn), ?_⟩
      have si6 := si5.set (n := n) nl el elg (tpm4.same s5)
      refine ⟨_, _, rfl, _, rfl, _, rfl, l, _, _, m, rfl, rfl, si6.h1, ixN_nat (by rw [List.length_set, List.length_map]; exact hm), rfl, ?_⟩
      exact hrest _ _ ⟨l, _, _, _, _, _, _, rfl, si6.set nl el elg ((tpa4.same s5).put si5.h1)⟩
    case k3 =>
      exact setrow rfl rfl (gt_tup (by decide) (ga_cons st (v7 rfl) (ga_cons st (gt_tup (by decide) (ga_cons st (k0 rfl) (ga_cons st (gt_draw rfl (by decide) (by decide)) ga_nil))) ga_nil))) fun H5 v si => hrest _ _ ⟨l, _, _, _, _, _, _, rfl, si⟩
    case k4 =>
      exact setrow rfl rfl (gt_tup (by decide) (ga_cons st (v7 rfl) (ga_cons st (gt_tup (by decide) (ga_cons st (gt_any (n := 4) rfl (gl_lst' (ga_cons st (gt_str "ground" (by decide)) (ga_cons st (gt_str "clause" (by decide)) (ga_cons st (gt_str "Ground" (by decide)) (ga_cons st (gt_str "" (by decide)) ga_nil)))) (by decide)) (by decide) (by decide)) (ga_cons st (k1 rfl) ga_nil))) ga_nil))) fun H5 v si => hrest _ _ ⟨l, _, _, _, _, _, _, rfl, si⟩
    case k5 =>
      exact setrow rfl rfl (gt_tup (by decide) (ga_cons st (askd rfl rfl) (ga_cons st (v8 rfl) ga_nil))) fun H5 v si => hrest _ _ ⟨l, _, _, _, _, _, _, rfl, si⟩
    case k6 =>
      exact setrow rfl rfl (gt_tup (by decide) (ga_cons st (v7 rfl) (ga_cons st (gt_any (n := 6) rfl (gl_lst' (ga_cons st (gt_listof (u8 rfl)) (ga_cons st (gt_tup (by decide) (ga_cons st (k0 rfl) (ga_cons st (gt_bl true) ga_nil))) (ga_cons st (gt_tup (by decide) (ga_cons st (k0 rfl) (ga_cons st gt_non ga_nil))) (ga_cons st (gu_gt (gu_cat st (u8 rfl) (gu_tup1 (gt_int 0)) (by decide)) (by decide)) (ga_cons st gt_non (ga_cons st (gt_str "ground" (by decide)) ga_nil)))))) (by decide)) (by decide) (by decide)) ga_nil))) fun H5 v si => hrest _ _ ⟨l, _, _, _, _, _, _, rfl, si⟩
    case k7 =>
      exact setrow rfl rfl (gt_any (n := 5) rfl (gl_lst' (ga_cons st gt_non (ga_cons st (gt_listof (row rfl rfl)) (ga_cons st (gt_tup (by decide) (ga_cons st (v7 rfl) ga_nil)) (ga_cons st (gu_gt (gu_cat st (row rfl rfl) (gu_tup1 (gt_int 0)) (by decide)) (by decide)) (ga_cons st (gt_nest rfl) ga_nil))))) (by decide)) (by decide) (by decide)) fun H5 v si => hrest _ _ ⟨l, _, _, _, _, _, _, rfl, si⟩
    case k8 =>
      refine ⟨_, rfl, ?_⟩
      refine gl_lst' (b := b) (g := g) (P := fun G => BL [b] H4 G) (n := 1) (ga_cons st (gt_tup (by decide) (ga_cons st (askd rfl rfl) (ga_cons st (gt_tup (by decide) (ga_cons st (gt_any (n := 2) rfl (gl_lst' (ga_cons st (gt_str "ground" (by decide)) (ga_cons st (gt_str "clause" (by decide)) ga_nil)) (by decide)) (by decide) (by decide)) (ga_cons st (gt_draw rfl (by decide) (by decide)) ga_nil))) ga_nil))) ga_nil) (by decide) H4 _ hB4 .refl fun H5 l2 vs bl5 hB5 nl2 hl2 tv hlen => ?_
      have si5 := si4.step el bl5 hB5
      refine ⟨l, l2, _, _, rfl, rfl, si5.h1, hl2, by rw [List.length_map, hlen]; exact Nat.le_trans (show as.length + 1 ≤ 1500 by omega) (by decide), fun l3 nl3 => ?_⟩
      have s6 := same_upd (o := HO.lst (as.map V.ref ++ vs)) nl3
      refine hrest _ _ ⟨l3, _, _, _, _, _, _, rfl, si5.bl.trans (.same s6), hB5.same s6, upd_same, fun x hx => ?_, ?_⟩
      · rcases List.mem_append.mp hx with zz | zz
        · exact (si5.t1 x zz).same s6
        · exact (tv x zz).same s6
      · rw [List.length_append, List.length_map, hlen]; omega
    case k9 =>
      refine gt_any (b := b) (g := g) (P := fun G => BL [b] H4 G) (n := 7) rfl (gl_lst' ?_ (by decide)) (by decide) (by decide) H4 _ hB4 .refl fun H5 v bl5 hB5 tv => q _ _ (si4.bl.trans bl5) hB5 tv
      exact ga_cons st (gt_var rfl fun G s => .lst (s _ _ (by simpa using el) si4.h1) el) (ga_cons st (gt_tup (by decide) ga_nil) (ga_cons st gt_non (ga_cons st gt_dct (ga_cons st (gt_str "reasons" (by decide)) (ga_cons st (gt_ixl0 (v := .ref (as[0]'hl0)) rfl (fun G s => ⟨s _ _ (by simpa using el) si4.h1, (si4.t1 _ (List.mem_map_of_mem (List.getElem_mem hl0))).bl s⟩) (atI_nat (j := 0) (by rw [List.getElem?_map, List.getElem?_eq_getElem hl0]; rfl))) (ga_cons st (gt_nest rfl) ga_nil))))))
    case k10 =>
      exact setrow rfl rfl (gt_tup (by decide) (ga_cons st (gu_gt (gu_cat st (gu_tup1 (gt_upper rfl (fun G s => s _ _ (by simpa using npf) hpf4) at0 (by have := hz.2.1; omega))) (gu_slc (u7 rfl) to_c to_no) (by decide)) (by decide)) (ga_cons st (v8 rfl) ga_nil))) fun H5 v si => hrest _ _ ⟨l, _, _, _, _, _, _, rfl, si⟩
    case k11 =>
      refine setrow rfl rfl (gt_tup (by decide) (ga_cons st (v7 rfl) (ga_cons st (gt_tup (by decide) (ga_cons st (k0 rfl) (ga_cons st ?_ ga_nil))) ga_nil))) fun H5 v si => hrest _ _ ⟨l, _, _, _, _, _, _, rfl, si⟩
      exact fun G Q hBG hP qq => ⟨_, rfl, _, rfl, po, _, _, _, rfl, rfl, .of (hP _ _ (by simpa using npo) hpo4), atI_nat (j := 1) rfl, _, _, rfl, rfl, qq G _ .refl hBG (.int _)⟩
end
end L2.My
end
section
set_option Elab.async false
set_option linter.all false
set_option maxRecDepth 100000
set_option maxHeartbeats 4000000
/-! _law_is of two bools. -/
namespace L2.My
open PySem PySem.Spec PyProof.Rows
def spIsB : Sp := fun vs H Q _ => ∃ x : Bool, vs = [.bl x, .bl x] ∧ ∀ H', Same H H' → Q (.bl true) H'
section
variable {P : Program} {w : World} {K : PySem.W.Frag} {mg : Str → Option Value} {base : Heap}
theorem ok_isB {f : Addr} {fd : FuncData} {k : Nat} (F : Fun K "_law_is" "_law_is" sIs f fd) (T : Tx mg) : FnOk P w K mg base CX0 (k + 1) f fd ["given", "due"] spIsB := by
  refine F.ok scIs (fun vs H Q E h => ?_) (fun cdv A outer s H vs Q E hr h => ?_)
  · obtain ⟨x, rfl, _⟩ := h
    rfl
  · obtain ⟨x, rfl, q⟩ := h
    refine ⟨_, (pss_cons (ps_if (pt_val (pe_callB call_isiT (by rfl) T.isi (by decide +kernel) (pa_cons (pv 1) (pa_cons (pe_tup (pa_cons (pe_bltn (v := .ty "tuple") (u := .type "tuple") (by rfl) T.tuple_ (by decide +kernel) rfl) (pa_cons (pe_bltn (v := .ty "list") (u := .type "list") (by rfl) T.list_ (by decide +kernel) rfl) pa_nil))) pa_nil)))) pss_never pss_nil) (pss_one (ps_ret (pe_and (pe_cmpR op_eq (pe_callB call_isTh (by rfl) T.isi (by decide +kernel) (pa_cons (pv 0) (pa_cons (pe_bltn (v := .ty "bool") (u := .type "bool") (by rfl) T.bool_ (by decide +kernel) rfl) pa_nil))) (pe_callB call_isTh (by rfl) T.isi (by decide +kernel) (pa_cons (pv 1) (pa_cons (pe_bltn (v := .ty "bool") (u := .type "bool") (by rfl) T.bool_ (by decide +kernel) rfl) pa_nil))) (nomark _)) (pe_one (pe_cmpR op_eq (pv 0) (pv 1) (nomark _))))))), ?_⟩
    refine ⟨_, rfl, by show 2 ≤ sizeLine; decide, fun tp ntp => ?_⟩
    have h1 : ThT (upd H tp (.tup [.ty "tuple", .ty "list"])) (.bl x) "bool" := .bl x
    refine ⟨.bl x, tp, _, .type "bool", _, _, rfl, upd_same, .cons (.ty _) (.cons (.ty _) .nil), h1.tyX, kitAny_tl "bool" (by decide), _, rfl, ?_⟩
    rw [show decide ("bool" = "tuple" ∨ "bool" = "list") = false by decide]
    refine iteF ?_
    refine ⟨_, rfl, _, "bool", "bool", rfl, h1, by decide, _, rfl, _, "bool", "bool", rfl, h1, by decide, ?_⟩
    refine ⟨rfl, _, rfl, iteT ⟨_, rfl, _, rfl, rfl, ?_⟩⟩
    rw [decide_eq_true rfl]
    exact q _ (same_upd ntp)
end
end L2.My
end
section
set_option Elab.async false
set_option linter.all false
set_option maxRecDepth 100000
set_option maxHeartbeats 4000000
/-! What the law needs. -/
namespace L2.My
open PySem PySem.Spec PyProof.Rows
/-- what stands while a rule is asked -/
structure LwI (C b g p r dr ca ga : Addr) (cs : List Cz) (gs : List (List Fc)) (G : Hp) : Prop where
  hb : HandAt G b g
  pt : G p = some (.tup [.ref ca, .ref ga])
  cl : ClsAt G ca cs
  gr : GrsAt G ga gs
  ru : RuleAt G C r dr ca ga cs gs
theorem LwI.step {C b g p r dr ca ga : Addr} {cs : List Cz} {gs : List (List Fc)} {G G' : Hp} (h : LwI C b g p r dr ca ga cs gs G) (s : BL [b] G G') (hb : HandAt G' b g) : LwI C b g p r dr ca ga cs gs G' := by
  have tk := h.hb.tk s
  have nrb : r ≠ b := fun e => by
    obtain ⟨_, _, _, _, _, h1, _⟩ := h.hb
    have h2 := h.ru.1
    rw [e, h1] at h2
    cases h2
  exact ⟨hb, tk _ _ h.pt, h.cl.tk tk, h.gr.tk tk, h.ru.keep tk ((s r _ (by simpa using nrb) h.ru.1).trans h.ru.1.symm)⟩
theorem LwI.P {C b g p r dr ca ga : Addr} {cs : List Cz} {gs : List (List Fc)} {G : Hp} (h : LwI C b g p r dr ca ga cs gs G) : PtAt G p cs gs := ⟨ca, ga, h.pt, h.cl, h.gr⟩
/-- and a lot, and a fact, and what is told of them -/
structure LwK (C b g p r dr ca ga lt fa : Addr) (cs : List Cz) (gs : List (List Fc)) (ns : List Nat) (f : Fc) (v1 v2 : V) (G : Hp) : Prop where
  i : LwI C b g p r dr ca ga cs gs G
  lt : G lt = some (.tup (nI ns))
  fa : FactAt G fa f
  t1 : ToldR G v1 cs gs ns f
  t2 : ToldC G v2 cs gs ns f
section
variable {C b g p r dr ca ga lt fa : Addr} {cs : List Cz} {gs : List (List Fc)} {ns : List Nat} {f : Fc} {v1 v2 : V} {G G' : Hp} {Dp : List Fc}
theorem LwK.step (h : LwK C b g p r dr ca ga lt fa cs gs ns f v1 v2 G) (s : BL [b] G G') (hb : HandAt G' b g) : LwK C b g p r dr ca ga lt fa cs gs ns f v1 v2 G' := by
  have tk := h.i.hb.tk s
  exact ⟨h.i.step s hb, tk _ _ h.lt, h.fa.tk tk, h.t1.tk tk, h.t2.tk tk⟩
theorem LwK.same (h : LwK C b g p r dr ca ga lt fa cs gs ns f v1 v2 G) (s : Same G G') : LwK C b g p r dr ca ga lt fa cs gs ns f v1 v2 G' := h.step (.same s) (h.i.hb.same s)
theorem LwK.th1 (h : LwK C b g p r dr ca ga lt fa cs gs ns f v1 v2 G) (hG : GR cs gs) (hD : PF Dp cs gs) : Thg b G v1 := by
  rcases h.t1 with ⟨_, rfl⟩ | ⟨_, x, F, rfl, hW, hR⟩
  · exact .non
  · exact thg_rs h.i.hb.nt hR (rsn_gf hG hW) (Nat.le_trans (rsn_len hD hW) (by decide))
theorem LwK.th2 (h : LwK C b g p r dr ca ga lt fa cs gs ns f v1 v2 G) (hG : GR cs gs) (hD : PF Dp cs gs) : Thg b G v2 := by
  rcases h.t2 with ⟨_, rfl⟩ | ⟨_, x, fs, rfl, hF, hA⟩
  · exact .non
  · exact thg_facts h.i.hb.nt hF (fun m hm => der_gf hG ((hA.mem m).mp hm)) (Nat.le_trans (all_len hD hA) (by decide))
end
theorem refs_of2 {H : Hp} {fs : List Fc} : ∀ {ys : List V}, (∀ y ∈ ys, ∃ c m, y = .ref c ∧ FactAt H c m ∧ m ∈ fs) → ∃ (as : List Addr) (ms : List Fc), ys = as.map V.ref ∧ Paired (FactAt H) as ms ∧ ∀ m ∈ ms, m ∈ fs
  | [], _ => ⟨[], [], rfl, .nil, by simp⟩
  | y :: r, h => by
    obtain ⟨c, m, rfl, hc, hm⟩ := h y List.mem_cons_self
    obtain ⟨as, ms, rfl, h2, h3⟩ := refs_of2 (ys := r) fun z hz => h z (List.mem_cons_of_mem _ hz)
    exact ⟨c :: as, m :: ms, rfl, .cons hc h2, fun x hx => by
      rcases List.mem_cons.mp hx with z | z
      · rw [z]; exact hm
      · exact h3 x z⟩
section
variable {b g D : Addr} {H1 : Hp} {Qd : Hp → Prop} {σ : St} {te : TE}
/-- some things in a row, made by a call each -/
theorem comp_things {vs : List Nat} {j : Nat} (hB : HandAt H1 b g) (nD : H1 D = none) (hj : ∀ v, wipe ((wipe σ vs).set j (some v)) vs = wipe σ vs)
    (hs : ∀ G v (Q' : VK), BL [b] H1 G → HandAt G b g → (∀ G' u, BL [b] G G' → HandAt G' b g → Thg b G' u → Q' u G') → te ((wipe σ vs).set j (some v)) G Q')
    (hd : ∀ G us, BL [b] H1 G → HandAt G b g → G D = some (.lst us) → us.length ≤ 4 → (∀ u ∈ us, Thg b G u) → Qd G) :
    CompOut (Itr 0 4) (gName j) tYes te vs σ D Qd H1 := by
  have nDb := hB.nb nD
  have nDg := hB.ng nD
  refine lc_it (walk_range (lo := 0)) (fun i G => BL [b] H1 G ∧ HandAt G b g ∧ ∃ us, G D = some (.lst us) ∧ us.length ≤ i ∧ ∀ u ∈ us, Thg b G u) ⟨.same (same_upd nD), hB.same (same_upd nD), [], upd_same, Nat.le_refl _, by simp⟩ (fun i G _ _ => trivial) ?_ ?_
  · rintro i y G G' hi ⟨bl, hBg, us, h1, h2, h3⟩ ⟨rfl, rfl⟩
    refine ⟨hj _, hs _ _ _ bl hBg fun G5 u bl5 hB5 tu => ?_⟩
    have h15 := bl5 _ _ (by simpa using nDb) h1
    refine ⟨us, h15, Nat.lt_of_le_of_lt (show us.length ≤ 100 by have : i < 4 := hi; omega) (by decide), BL.put (bl.trans bl5) nD, hB5.put nDb nDg, us ++ [u], upd_same, by rw [List.length_append, List.length_singleton]; omega, fun x hx => ?_⟩
    rcases List.mem_append.mp hx with z | z
    · exact ((h3 x z).bl bl5).put h15
    · rw [List.mem_singleton.mp z]; exact tu.put h15
  · rintro G ⟨bl, hBg, us, h1, h2, h3⟩
    exact hd G us bl hBg h1 h2 h3
end
end L2.My
end
section
set_option Elab.async false
set_option linter.all false
set_option maxRecDepth 100000
set_option maxHeartbeats 16000000
namespace L2.My
open PySem PySem.Spec PyProof.Rows
abbrev sLaw : Stmt := top 55
abbrev nLw : List Str := ["script", "hand", "turn", "many", "parts", "rule", "again", "lot", "fact", "holds", "told", "other", "base", "things", "one", "k"]
def spLaw (K : PySem.W.Frag) : Sp := fun vs H Q _ => ∃ (a : Addr) (ns : List Int), vs = [.ref a] ∧ SqL K H a (ns.map V.int) ∧ ∀ H', Q (.bl true) H'
section
variable {P : Program} {w : World} {K : PySem.W.Frag} {mg : Str → Option Value} {base : Heap} {C : Addr}
theorem scLw : FnScope nLw ["script"] (defScope sLaw) := ⟨rfl, rfl, rfl, by decide +kernel, rfl, by decide +kernel, by decide +kernel⟩
open Classical in
theorem ok_law {f : Addr} {fd : FuncData} {k : Nat} (F : Fun K "law" "law" sLaw f fd) (T : Tx mg) (cH : Cal P w K mg base (k + 1) "_law_hand" ["script"] (spHand K)) (cD : Cal P w K mg base (k + 1) "_law_draw" ["hand", "many"] spDraw) (cP : Cal P w K mg base (k + 5) "_law_parts" ["hand", "most", "grounds"] spParts) (cM : Cal P w K mg base (k + 7) "_law_made" ["parts"] (spMade C))
    (cL : Cal P w K mg base (k + 2) "_law_lot" ["hand", "many"] spLlot) (cK : Cal P w K mg base (k + 4) "_law_asked" ["hand", "parts"] spAskd) (cR : Cal P w K mg base (k + 1) "_law_rounds" ["parts", "lot", "without"] spRnd) (cRs : Cal P w K mg base (k + 4) "reasons" ["rule", "lot", "fact"] (spReas C)) (cCl : Cal P w K mg base (k + 5) "closed" ["rule", "lot", "fact"] (spClo C))
    (cI4 : Cal P w K mg base (k + 5) "_law_is" ["given", "due"] (spIsN 4)) (cI0 : Cal P w K mg base (k + 1) "_law_is" ["given", "due"] (spIsN 0)) (cLr : Cal P w K mg base (k + 3) "_law_are_reasons" ["parts", "lot", "fact", "thing"] spLar) (cLc : Cal P w K mg base (k + 3) "_law_is_closed" ["parts", "lot", "fact", "thing"] spLic)
    (cIr : Cal P w K mg base (k + 4) "is_reasons" ["rule", "lot", "fact", "thing"] (spIrs C)) (cIc : Cal P w K mg base (k + 4) "is_closed" ["rule", "lot", "fact", "thing"] (spIcl C)) (cBr : Cal P w K mg base (k + 5) "_law_bent_reasons" ["hand", "parts", "thing"] spBr) (cBc : Cal P w K mg base (k + 5) "_law_bent_closed" ["hand", "parts", "thing", "fact"] spBc)
    (cMx : Cal P w K mg base (k + 2) "_law_mixed" ["hand", "items"] spMixL) (cFs : Cal P w K mg base (k + 2) "_law_facts" ["parts"] spFacs) :
    FnOk P w K mg base CX0 (k + 8) f fd ["script"] (spLaw K) := by
  refine F.ok scLw (fun vs H Q E h => ?_) (fun cdv A outer s H vs Q E hr h => ?_)
  · obtain ⟨a, ns, rfl, _⟩ := h
    rfl
  · obtain ⟨a, ns, rfl, hS, q⟩ := h
    refine ⟨_, (pss_cons (ps_set (i := 1) scLw.nd rfl (Or.inr rfl) (pe_c cH hr (by omega) (by rfl) (pa_cons (pv 0) pa_nil))) (pss_cons (ps_for PassesOwn.never rfl (pi_range1 (by rfl) T.range_ (pa_cons pe_int pa_nil)) (pg_name (i := 2) scLw.nd rfl (Or.inl rfl)) (pss_cons (ps_set (i := 3) scLw.nd rfl (Or.inl rfl) (pe_c cD hr (by omega) (by rfl) (pa_cons (pv 1) (pa_cons pe_int pa_nil)))) (pss_cons (ps_set (i := 4) scLw.nd rfl (Or.inr rfl) (pe_c cP hr (by omega) (by rfl) (pa_cons (pv 1) (pa_cons pe_int (pa_cons (pv 3) pa_nil))))) (pss_cons (ps_set (i := 5) scLw.nd rfl (Or.inl rfl) (pe_c cM hr (by omega) (by rfl) (pa_cons (pv 4) pa_nil))) (pss_one (ps_for PassesOwn.never rfl (pi_range1 (by rfl) T.range_ (pa_cons pe_int pa_nil)) (pg_name (i := 6) scLw.nd rfl (Or.inl rfl)) (pss_cons (ps_asg (pe_tup (pa_cons (pe_c cL hr (by omega) (by rfl) (pa_cons (pv 1) (pa_cons (pv 3) pa_nil))) (pa_cons (pe_c cK hr (by omega) (by rfl) (pa_cons (pv 1) (pa_cons (pv 4) pa_nil))) pa_nil))) (pg_tup rfl (pgs_cons (pg_name (i := 7) scLw.nd rfl (Or.inl rfl)) (pgs_cons (pg_name (i := 8) scLw.nd rfl (Or.inr rfl)) pgs_nil)))) (pss_cons (ps_set (i := 9) scLw.nd rfl (Or.inl rfl) (pe_cmp (pc_din (u1 hr) (pv 8) (pe_c cR hr (by omega) (by rfl) (pa_cons (pv 4) (pa_cons (pv 7) (pa_cons pe_non pa_nil))))) rfl)) (pss_cons (ps_par (i := 10) (j := 11) rfl scLw.nd rfl rfl (by decide) rfl rfl (pa_cons (pe_c cRs hr (by omega) (by rfl) (pa_cons (pv 5) (pa_cons (pv 7) (pa_cons (pv 8) pa_nil)))) (pa_cons (pe_c cCl hr (by omega) (by rfl) (pa_cons (pv 5) (pa_cons (pv 7) (pa_cons (pv 8) pa_nil)))) pa_nil)) rfl) (pss_cons (ps_if (pt_or (pt_cmpR op_ne (pe_cmpR op_notN (pv 10) pe_non (nomark _)) (pv 9) (nomark _)) (pw_or1 (pt_cmpR op_ne (pe_cmpR op_isN (pv 11) pe_non (nomark _)) (pv 9) (nomark _)))) (pss_one (ps_ret pe_bl)) pss_nil) (pss_cons (ps_if (pt_not (pt_val (pe_c cI4 hr (by omega) (by rfl) (pa_cons (pe_lst (pa_cons (pe_c cRs hr (by omega) (by rfl) (pa_cons (pv 5) (pa_cons (pv 7) (pa_cons (pv 8) pa_nil)))) (pa_cons (pe_c cCl hr (by omega) (by rfl) (pa_cons (pv 5) (pa_cons (pv 7) (pa_cons (pv 8) pa_nil)))) pa_nil))) (pa_cons (pe_lst (pa_cons (pv 10) (pa_cons (pv 11) pa_nil))) pa_nil))))) (pss_one (ps_ret pe_bl)) pss_nil) (pss_cons (ps_if (pt_and (pt_val (pv 9)) (pw_and1 (pt_not (pt_val (pe_c cLr hr (by omega) (by rfl) (pa_cons (pv 4) (pa_cons (pv 7) (pa_cons (pv 8) (pa_cons (pv 10) pa_nil))))))))) (pss_one (ps_ret pe_bl)) pss_nil) (pss_cons (ps_if (pt_and (pt_not (pt_val (pv 9))) (pw_and1 (pt_not (pt_val (pe_c cLc hr (by omega) (by rfl) (pa_cons (pv 4) (pa_cons (pv 7) (pa_cons (pv 8) (pa_cons (pv 11) pa_nil))))))))) (pss_one (ps_ret pe_bl)) pss_nil) (pss_cons (ps_set (i := 12) scLw.nd rfl (Or.inr rfl) (pe_ifExp (pt_val (pv 9)) (pv 10) (pe_tup (pa_cons (pe_tup (pa_cons (pe_c cK hr (by omega) (by rfl) (pa_cons (pv 1) (pa_cons (pv 4) pa_nil))) (pa_cons (pe_tup (pa_cons pe_str (pa_cons pe_int pa_nil))) pa_nil))) (pa_cons (pe_tup (pa_cons (pv 8) (pa_cons (pe_tup (pa_cons pe_str (pa_cons (pe_c cD hr (by omega) (by rfl) (pa_cons (pv 1) (pa_cons pe_int pa_nil))) pa_nil))) pa_nil))) pa_nil))))) (pss_cons (ps_set (i := 13) scLw.nd rfl (Or.inl rfl) (pe_op op_cat (pe_lc (own := [("k", 15)]) (g := gName 15) (te := tCall spBr [] E0 (tCons (tVar 1) (tCons (tVar 4) (tCons (tVar 12) tNil)))) rfl scLw.nd (pi_range1 (by rfl) T.range_ (pa_cons pe_int pa_nil)) (blkOk_by (N := nLw) (sc := defScope sLaw) (by decide +kernel)) (fun _ _ _ _ _ => pg_name (i := 15) scLw.nd rfl (Or.inl rfl)) (fun _ _ _ _ _ => pts_nil) (fun _ _ _ _ _ => (pe_c cBr hr (by omega) (by rfl) (pa_cons (pv 1) (pa_cons (pv 4) (pa_cons (pv 12) pa_nil)))))) (pe_lst (pa_cons (pv 10) pa_nil)))) (pss_cons (ps_for PassesOwn.never rfl (pi_list (pv 13)) (pg_name (i := 14) scLw.nd rfl (Or.inl rfl)) (pss_one (ps_if (pt_not (pt_val (pe_c cI0 hr (by omega) (by rfl) (pa_cons (pe_c cIr hr (by omega) (by rfl) (pa_cons (pv 5) (pa_cons (pv 7) (pa_cons (pv 8) (pa_cons (pv 14) pa_nil))))) (pa_cons (pe_c cLr hr (by omega) (by rfl) (pa_cons (pv 4) (pa_cons (pv 7) (pa_cons (pv 8) (pa_cons (pv 14) pa_nil))))) pa_nil))))) (pss_one (ps_ret pe_bl)) pss_nil))) (pss_cons (ps_set (i := 12) scLw.nd rfl (Or.inr rfl) (pe_ifExp (pt_val (pv 9)) (pe_tupleOf (by rfl) T.tuple_ (pe_slice sl_list (pe_c cMx hr (by omega) (by rfl) (pa_cons (pv 1) (pa_cons (pe_c cFs hr (by omega) (by rfl) (pa_cons (pv 4) pa_nil)) pa_nil))) po_none (po_some pe_int))) (pv 11))) (pss_cons (ps_set (i := 13) scLw.nd rfl (Or.inl rfl) (pe_op op_cat (pe_lc (own := [("k", 15)]) (g := gName 15) (te := tCall spBc [] E0 (tCons (tVar 1) (tCons (tVar 4) (tCons (tVar 12) (tCons (tVar 8) tNil))))) rfl scLw.nd (pi_range1 (by rfl) T.range_ (pa_cons pe_int pa_nil)) (blkOk_by (N := nLw) (sc := defScope sLaw) (by decide +kernel)) (fun _ _ _ _ _ => pg_name (i := 15) scLw.nd rfl (Or.inl rfl)) (fun _ _ _ _ _ => pts_nil) (fun _ _ _ _ _ => (pe_c cBc hr (by omega) (by rfl) (pa_cons (pv 1) (pa_cons (pv 4) (pa_cons (pv 12) (pa_cons (pv 8) pa_nil))))))) (pe_lst (pa_cons (pv 11) pa_nil)))) (pss_one (ps_for PassesOwn.never rfl (pi_list (pv 13)) (pg_name (i := 14) scLw.nd rfl (Or.inl rfl)) (pss_one (ps_if (pt_not (pt_val (pe_c cI0 hr (by omega) (by rfl) (pa_cons (pe_c cIc hr (by omega) (by rfl) (pa_cons (pv 5) (pa_cons (pv 7) (pa_cons (pv 8) (pa_cons (pv 14) pa_nil))))) (pa_cons (pe_c cLc hr (by omega) (by rfl) (pa_cons (pv 4) (pa_cons (pv 7) (pa_cons (pv 8) (pa_cons (pv 14) pa_nil))))) pa_nil))))) (pss_one (ps_ret pe_bl)) pss_nil)))))))))))))))))))))) (pss_one (ps_ret pe_bl)))), ?_⟩
    refine ⟨_, rfl, a, ns, rfl, hS, fun H1 b g s1 nb ng hB1 => ?_⟩
    refine ⟨3, rfl, by decide, by decide, ?_⟩
    refine for_it (walk_range (lo := 0)) (fun i σ G => ∃ (y2 y3 y4 y5 y6 y7 y8 y9 y10 y11 y12 y13 y14 : Option V), σ = [some (.ref a), some (.ref b), y2, y3, y4, y5, y6, y7, y8, y9, y10, y11, y12, y13, y14, none] ∧ HandAt G b g) ⟨_, _, _, _, _, _, _, _, _, _, _, _, _, rfl, hB1⟩ (fun i σ G _ _ => trivial) ?_ ?_
    rotate_left
    · rintro σ G ⟨y2, y3, y4, y5, y6, y7, y8, y9, y10, y11, y12, y13, y14, rfl, hB⟩
      exact q _
    rintro i y σ G G' hi ⟨y2, y3, y4, y5, y6, y7, y8, y9, y10, y11, y12, y13, y14, rfl, hB⟩ ⟨rfl, rfl⟩
    refine ⟨_, rfl, b, g, 6, rfl, hB, by decide, by decide, fun H2 m bl2 hB2 hm0 hm1 => ?_⟩
    obtain ⟨mn, rfl⟩ : ∃ mn : Nat, m = mn := ⟨m.toNat, by omega⟩
    refine ⟨_, rfl, _, rfl, b, g, 24, mn, rfl, hB2, by decide, by decide, by omega, by omega, fun H3 p ca ga cs gs bl3 hB3 hp hc hg hG hgl ⟨Dp, hD⟩ => ?_⟩
    rw [Int.toNat_natCast] at hgl
    refine ⟨_, rfl, p, ca, ga, cs, gs, rfl, hp, hc, hg, hG, fun H4 r dr s4 hR => ?_⟩
    have hI4 : LwI C b g p r dr ca ga cs gs H4 := ⟨hB3.same s4, s4 _ _ hp, hc.tk (.same s4), hg.tk (.same s4), hR⟩
    clear hR s4 hp hc hg hB3 bl3 hB2 bl2 hB
    refine ⟨3, rfl, by decide, by decide, ?_⟩
    refine for_it (walk_range (lo := 0)) (fun j σ G => ∃ (y6 y7 y8 y9 y10 y11 y12 y13 y14 : Option V), σ = [some (.ref a), some (.ref b), some (.int (0 + (i : Nat))), some (.int (mn : Nat)), some (.ref p), some (.ref r), y6, y7, y8, y9, y10, y11, y12, y13, y14, none] ∧ LwI C b g p r dr ca ga cs gs G) ⟨_, _, _, _, _, _, _, _, _, rfl, hI4⟩ (fun i σ G _ _ => trivial) ?_ ?_
    rotate_left
    · rintro σ G ⟨y6, y7, y8, y9, y10, y11, y12, y13, y14, rfl, hI⟩
      exact ⟨_, _, _, _, _, _, _, _, _, _, _, _, _, rfl, hI.hb⟩
    clear hI4
    rintro j y σ G G' hj ⟨y6, y7, y8, y9, y10, y11, y12, y13, y14, rfl, hI⟩ ⟨rfl, rfl⟩
    refine ⟨_, rfl, _, rfl, b, g, mn, rfl, hI.hb, by omega, by omega, fun H5 lt ls bl5 hB5 hlt hnl hnb hna => ?_⟩
    have hI5 := hI.step bl5 hB5
    rw [Int.toNat_natCast] at hnb
    have hLot : LotOk gs ls := ⟨hnl, fun n hn => by rw [hgl]; exact hnb n hn, hna⟩
    refine ⟨_, rfl, _, rfl, b, g, p, cs, gs, rfl, hB5, hI5.P, hG, fun H6 fa f bl6 hB6 hfa gf => ⟨by show 2 ≤ sizeLine; decide, fun tt ntt => ?_⟩⟩
    have hI6 := hI5.step bl6 hB6
    have hlt6 := hB5.tk bl6 _ _ hlt
    have s7 := same_upd (o := HO.tup [.ref lt, .ref fa]) ntt
    refine ⟨tt, _, rfl, .of upd_same, rfl, _, _, rfl, _, _, rfl, rfl, ?_⟩
    have hI7 := hI6.step (.same s7) (hB6.same s7)
    have hlt7 := s7 _ _ hlt6
    have hfa7 : FactAt (upd H6 tt (.tup [.ref lt, .ref fa])) fa f := s7 _ _ hfa
    generalize hH7 : upd H6 tt (.tup [.ref lt, .ref fa]) = H7 at *
    clear hH7 s7 ntt hlt6 hI6 hfa hB6 bl6 hI5 hlt hB5 bl5 hI
    refine ⟨_, rfl, _, rfl, _, rfl, p, lt, ca, ga, cs, gs, ls, none, rfl, hI7.pt, hI7.cl, hI7.gr, hG, hlt7, hnl, hLot.bnd, rfl, fun H8 d s8 hFM => ?_⟩
    have hfa8 : FactAt H8 fa f := s8 _ _ hfa7
    obtain ⟨o, hdg, ho, _⟩ := hFM.get hfa8
    refine ⟨d, o, rfl, hdg, ?_⟩
    obtain ⟨hb, ehb, hhb⟩ : ∃ hb : Bool, o.isSome = hb ∧ (hb = true ↔ Der cs (Gof gs ls) none f) := ⟨_, rfl, by rw [ho, decide_eq_true_iff]⟩
    rw [ehb]
    have hI8 := hI7.step (.same s8) (hI7.hb.same s8)
    have hlt8 := s8 _ _ hlt7
    clear hFM hdg ho ehb hfa7 hlt7 hI7 s8
    try dsimp only
    refine seq_par ⟨_, rfl, _, rfl, _, rfl, r, lt, fa, dr, ca, ga, cs, gs, ls, f, rfl, hI8.ru, hG, hlt8, hLot, hfa8, gf, fun H9 v1 s9 hT1 => ?_⟩
    have hI9 := hI8.step (.same s9) (hI8.hb.same s9)
    refine ⟨_, rfl, _, rfl, _, rfl, r, lt, fa, dr, ca, ga, cs, gs, ls, f, rfl, hI9.ru, hG, s9 _ _ hlt8, hLot, s9 _ _ hfa8, gf, fun H10 v2 s10 hT2 => ⟨_, _, rfl, ?_⟩⟩
    have hK : LwK C b g p r dr ca ga lt fa cs gs ls f v1 v2 H10 := ⟨hI9.step (.same s10) (hI9.hb.same s10), s10 _ _ (s9 _ _ hlt8), s10 _ _ (s9 _ _ hfa8), hT1.tk (.same s10), hT2⟩
    clear hT2 hI9 s10 hT1 s9 hlt8 hI8 hfa8
    try dsimp only
    -- just one of the two is there
    refine seq_use (fun σ G => σ = [some (.ref a), some (.ref b), some (.int (0 + (i : Nat))), some (.int (mn : Nat)), some (.ref p), some (.ref r), some (.int (0 + (j : Nat))), some (.ref lt), some (.ref fa), some (.bl hb), some v1, some v2, y12, y13, y14, none] ∧ LwK C b g p r dr ca ga lt fa cs gs ls f v1 v2 G) ?_ (fun hrest => ?_)
    rotate_left
    · have e1 : (!decide (v1 = V.non)) = hb := by
        rcases hK.t1 with ⟨nd, rfl⟩ | ⟨dd, x, F, rfl, _⟩
        · rw [Bool.eq_false_iff.mpr (fun z => nd (hhb.mp z))]; simp
        · rw [hhb.mpr dd]; simp
      have e2 : decide (v2 = V.non) = hb := by
        rcases hK.t2 with ⟨dd, rfl⟩ | ⟨nd, x, F, rfl, _⟩
        · rw [hhb.mpr dd]; simp
        · rw [Bool.eq_false_iff.mpr (fun z => nd (hhb.mp z))]; simp
      refine ⟨_, rfl, rfl, _, rfl, rfl, _, rfl, ?_⟩
      rw [e1, decide_eq_true rfl]
      refine iteF ⟨_, rfl, rfl, _, rfl, rfl, _, rfl, ?_⟩
      rw [e2, decide_eq_true rfl]
      exact iteF (hrest _ _ ⟨rfl, hK⟩)
    clear hK
    rintro σ G ⟨rfl, hK⟩
    -- told alike again
    refine seq_use (fun σ G => σ = [some (.ref a), some (.ref b), some (.int (0 + (i : Nat))), some (.int (mn : Nat)), some (.ref p), some (.ref r), some (.int (0 + (j : Nat))), some (.ref lt), some (.ref fa), some (.bl hb), some v1, some v2, y12, y13, y14, none] ∧ LwK C b g p r dr ca ga lt fa cs gs ls f v1 v2 G) ?_ (fun hrest => ?_)
    rotate_left
    · refine ⟨_, rfl, _, rfl, _, rfl, r, lt, fa, dr, ca, ga, cs, gs, ls, f, rfl, hK.i.ru, hG, hK.lt, hLot, hK.fa, gf, fun G1 w1 t1 hU1 => ?_⟩
      have hK1 := hK.same t1
      refine ⟨_, rfl, _, rfl, _, rfl, r, lt, fa, dr, ca, ga, cs, gs, ls, f, rfl, hK1.i.ru, hG, hK1.lt, hLot, hK1.fa, gf, fun G2 w2 t2 hU2 => ⟨by show 2 ≤ sizeLine; decide, fun l1 nl1 => ⟨_, rfl, _, rfl, by show 2 ≤ sizeLine; decide, fun l2 nl2 => ?_⟩⟩⟩
      have u1 := same_upd (o := HO.lst [w1, w2]) nl1
      have u2 := same_upd (o := HO.lst [v1, v2]) nl2
      have u12 := u1.trans u2
      have hK2 := (hK1.same t2).same u12
      refine ⟨_, _, rfl, .inr ⟨l1, l2, _, _, rfl, rfl, .inr ⟨u2 _ _ upd_same, upd_same⟩, .cons (toldR_eq hG hD (hU1.tk (.same (t2.trans u12))) hK2.t1) (.cons (toldC_eq hG hD (hU2.tk (.same u12)) hK2.t2) .nil), by show 2 ≤ 1000000; decide⟩, fun G3 t3 => ⟨_, rfl, iteF (hrest _ _ ⟨rfl, hK2.same t3⟩)⟩⟩
    clear hK
    rintro σ G ⟨rfl, hK⟩
    -- right by the law's judge
    refine seq_use (fun σ G => σ = [some (.ref a), some (.ref b), some (.int (0 + (i : Nat))), some (.int (mn : Nat)), some (.ref p), some (.ref r), some (.int (0 + (j : Nat))), some (.ref lt), some (.ref fa), some (.bl hb), some v1, some v2, y12, y13, y14, none] ∧ LwK C b g p r dr ca ga lt fa cs gs ls f v1 v2 G) ?_ (fun hrest => ?_)
    rotate_left
    · refine ⟨_, rfl, _, rfl, ?_⟩
      rcases hK.t1 with ⟨nd, rfl⟩ | ⟨dd, x, F, rfl, hW, hRx⟩
      · rw [Bool.eq_false_iff.mpr (fun z => nd (hhb.mp z))] at *
        exact iteF (hrest _ _ ⟨rfl, hK⟩)
      · rw [hhb.mpr dd] at *
        refine iteT ⟨_, rfl, _, rfl, _, rfl, _, rfl, b, p, lt, fa, cs, gs, ls, f, _, rfl, hK.i.P, hG, hK.lt, hK.fa, gf, hK.th1 hG hD, fun G1 t1 => ⟨_, rfl, ?_⟩⟩
        rw [rs_right hW hG hLot.bnd ((hW.der f).mpr dd) hRx]
        exact iteF (hrest _ _ ⟨rfl, hK.same t1⟩)
    clear hK
    rintro σ G ⟨rfl, hK⟩
    refine seq_use (fun σ G => σ = [some (.ref a), some (.ref b), some (.int (0 + (i : Nat))), some (.int (mn : Nat)), some (.ref p), some (.ref r), some (.int (0 + (j : Nat))), some (.ref lt), some (.ref fa), some (.bl hb), some v1, some v2, y12, y13, y14, none] ∧ LwK C b g p r dr ca ga lt fa cs gs ls f v1 v2 G) ?_ (fun hrest => ?_)
    rotate_left
    · refine ⟨_, rfl, _, rfl, ?_⟩
      rcases hK.t2 with ⟨dd, rfl⟩ | ⟨nd, x, fs, rfl, hF, hA⟩
      · rw [hhb.mpr dd] at *
        exact iteF (hrest _ _ ⟨rfl, hK⟩)
      · rw [Bool.eq_false_iff.mpr (fun z => nd (hhb.mp z))] at *
        refine iteT ⟨_, rfl, _, rfl, _, rfl, _, rfl, b, p, lt, fa, cs, gs, ls, f, _, rfl, hK.i.P, hG, hK.lt, hLot, hK.fa, gf, hK.th2 hG hD, fun G1 t1 => ⟨_, rfl, ?_⟩⟩
        rw [clB_right hG hF hA nd]
        exact iteF (hrest _ _ ⟨rfl, hK.same t1⟩)
    clear hK
    rintro σ G ⟨rfl, hK⟩
    -- what is bent
    refine seq_use (fun σ G => ∃ (bs : Addr) (L : List Wo), σ = [some (.ref a), some (.ref b), some (.int (0 + (i : Nat))), some (.int (mn : Nat)), some (.ref p), some (.ref r), some (.int (0 + (j : Nat))), some (.ref lt), some (.ref fa), some (.bl hb), some v1, some v2, some (.ref bs), y13, y14, none] ∧ LwK C b g p r dr ca ga lt fa cs gs ls f v1 v2 G ∧ RsAt G bs L ∧ L ≠ [] ∧ L.length ≤ 30 ∧ ∀ q ∈ L, GF q.1.1) ?_ (fun hrest => ?_)
    rotate_left
    · refine ⟨_, rfl, _, rfl, ?_⟩
      rcases hK.t1 with ⟨nd, rfl⟩ | ⟨dd, x, F, rfl, hW, hRx⟩
      · rw [Bool.eq_false_iff.mpr (fun z => nd (hhb.mp z))] at *
        refine iteF ⟨_, rfl, _, rfl, b, g, p, cs, gs, rfl, hK.i.hb, hK.i.P, hG, fun G1 x1 f1 bl1 hB1 hx1 gf1 => ⟨by show 2 ≤ sizeLine; decide, fun o1 no1 => ⟨by show 2 ≤ sizeLine; decide, fun p1 np1 => ?_⟩⟩⟩
        have hK1 := hK.step bl1 hB1
        have u1 := same_upd (o := HO.tup [.str "ground", .int 0]) no1
        have u2 := same_upd (o := HO.tup [.ref x1, .ref o1]) np1
        have hK2 := (hK1.same u1).same u2
        have hp1 : PrAt (upd (upd G1 o1 (.tup [.str "ground", .int 0])) p1 (.tup [.ref x1, .ref o1])) p1 ((f1, 0), (false, 0)) := ⟨x1, o1, upd_same, u2 _ _ (u1 _ _ hx1), u2 _ _ upd_same⟩
        generalize hG2 : upd (upd G1 o1 (.tup [.str "ground", .int 0])) p1 (.tup [.ref x1, .ref o1]) = G2 at *
        refine ⟨_, rfl, _, rfl, b, g, 9, rfl, hK2.i.hb, by decide, by decide, fun G3 rr bl3 hB3 hr0 hr1 => ⟨by show 2 ≤ sizeLine; decide, fun o2 no2 => ⟨by show 2 ≤ sizeLine; decide, fun p2 np2 => ⟨by show 2 ≤ sizeLine; decide, fun t3 nt3 => ?_⟩⟩⟩⟩
        obtain ⟨rn, rfl⟩ : ∃ rn : Nat, rr = rn := ⟨rr.toNat, by omega⟩
        have hK3 := hK2.step bl3 hB3
        have u4 := same_upd (o := HO.tup [.str "clause", .int (rn : Nat)]) no2
        have u5 := same_upd (o := HO.tup [.ref fa, .ref o2]) np2
        have u6 := same_upd (o := HO.tup [.ref p1, .ref p2]) nt3
        have u46 := u4.trans (u5.trans u6)
        have hK6 := hK3.same u46
        refine hrest _ _ ⟨t3, [((f1, 0), (false, 0)), ((f, 0), (true, rn))], rfl, hK6, ⟨[p1, p2], upd_same, .cons ((hp1.tk (hK2.i.hb.tk bl3)).tk (.same u46)) (.cons ⟨fa, o2, u6 _ _ upd_same, hK6.fa, u6 _ _ (u5 _ _ upd_same)⟩ .nil)⟩, by simp, by show 2 ≤ 30; decide, fun q hq => ?_⟩
        simp only [List.mem_cons, List.not_mem_nil, or_false] at hq
        rcases hq with rfl | rfl
        · exact gf1
        · exact gf
      · rw [hhb.mpr dd] at *
        refine iteT ⟨_, rfl, hrest _ _ ⟨x, rsn cs F f, rfl, hK, hRx, ?_, rsn_len hD hW, rsn_gf hG hW⟩⟩
        obtain ⟨L', q, e, _⟩ := rsn_last hW ((hW.der f).mpr dd)
        rw [e]
        simp
    clear hK
    rintro σ G ⟨bs, L, rfl, hK, hRb, hL0, hL1, hLg⟩
    refine seq_set ⟨4, rfl, by decide, by decide, fun D nD => ?_⟩
    refine comp_things (j := 15) hK.i.hb nD (fun _ => rfl) (fun G1 v Q' bl1 hB1 hq => ⟨_, rfl, _, rfl, _, rfl, b, g, p, bs, cs, gs, L, rfl, hB1, (hK.step bl1 hB1).i.P, hG, hRb.tk (hK.i.hb.tk bl1), hL0, by omega, hLg, hq⟩) (fun G1 us bl1 hB1 hD1 hus hut => ?_)
    refine ⟨_, rfl, by show 1 ≤ sizeLine; decide, fun l2 n2 => ⟨D, l2, us, [v1], rfl, rfl, (same_upd n2) _ _ hD1, upd_same, Nat.le_trans (show us.length + 1 ≤ 5 by omega) (by decide), fun l3 n3 => ?_⟩⟩
    have u1 := same_upd (o := HO.lst [v1]) n2
    have u2 := same_upd (o := HO.lst (us ++ [v1])) n3
    have u12 := u1.trans u2
    have hK3 := (hK.step bl1 hB1).same u12
    have hl3 : (upd (upd G1 l2 (.lst [v1])) l3 (.lst (us ++ [v1]))) l3 = some (.lst (us ++ [v1])) := upd_same
    have ht3 : ∀ u ∈ us ++ [v1], Thg b (upd (upd G1 l2 (.lst [v1])) l3 (.lst (us ++ [v1]))) u := fun u hu => by
      rcases List.mem_append.mp hu with z | z
      · exact (hut u z).same u12
      · rw [List.mem_singleton.mp z]; exact hK3.th1 hG hD
    generalize upd (upd G1 l2 (.lst [v1])) l3 (.lst (us ++ [v1])) = G3 at *
    clear u1 u2 u12 n2 n3 hut hD1 hB1 bl1 hRb hK
    refine seq_use (fun σ G => ∃ (x12 x13 x14 : Option V), σ = [some (.ref a), some (.ref b), some (.int (0 + (i : Nat))), some (.int (mn : Nat)), some (.ref p), some (.ref r), some (.int (0 + (j : Nat))), some (.ref lt), some (.ref fa), some (.bl hb), some v1, some v2, x12, x13, x14, none] ∧ LwK C b g p r dr ca ga lt fa cs gs ls f v1 v2 G) ?_ (fun hrest => ?_)
    rotate_left
    · refine ⟨_, rfl, l3, rfl, ⟨_, SqL.of hl3⟩, ?_⟩
      refine for_it (walk_list (xs := us ++ [v1])) (fun _ σ G => ∃ x14, σ = [some (.ref a), some (.ref b), some (.int (0 + (i : Nat))), some (.int (mn : Nat)), some (.ref p), some (.ref r), some (.int (0 + (j : Nat))), some (.ref lt), some (.ref fa), some (.bl hb), some v1, some v2, some (.ref bs), some (.ref l3), x14, none] ∧ LwK C b g p r dr ca ga lt fa cs gs ls f v1 v2 G ∧ G l3 = some (.lst (us ++ [v1])) ∧ ∀ u ∈ us ++ [v1], Thg b G u) ⟨_, rfl, hK3, hl3, ht3⟩ (fun _ _ G _ h => ?_) ?_ ?_
      · obtain ⟨_, _, _, h, _⟩ := h
        exact SqL.of h
      · rintro i2 y σ G G' hi2 ⟨x14, rfl, hKg, hl, ht⟩ ⟨rfl, hy⟩
        have ty := ht y (List.mem_of_getElem? hy)
        refine ⟨_, rfl, _, rfl, _, rfl, _, rfl, b, r, lt, fa, dr, ca, ga, cs, gs, ls, f, y, rfl, hKg.i.ru, hG, hKg.lt, hLot, hKg.fa, gf, ty, fun G1 t1 => ?_⟩
        have hKh := hKg.same t1
        refine ⟨_, rfl, _, rfl, _, rfl, _, rfl, b, p, lt, fa, cs, gs, ls, f, y, rfl, hKh.i.P, hG, hKh.lt, hKh.fa, gf, ty.same t1, fun G2 t2 => ⟨_, _, rfl, ?_, fun G3 t3 => ⟨_, rfl, iteF ⟨_, rfl, (hKh.same t2).same t3, t3 _ _ (t2 _ _ (t1 _ _ hl)), fun u hu => (((ht u hu).same t1).same t2).same t3⟩⟩⟩⟩
        rw [rsB_bl ty (.same t1)]
        exact EqN.atm (.boo _)
      · rintro σ G ⟨x14, rfl, hKg, _, _⟩
        exact hrest _ _ ⟨_, _, _, rfl, hKg⟩
    clear hK3 hl3 ht3 hus hLg hL1 hL0
    rintro σ G ⟨x12, x13, x14, rfl, hK⟩
    refine seq_use (fun σ G => ∃ (bs : Addr) (fs : List Fc) (x13 x14 : Option V), σ = [some (.ref a), some (.ref b), some (.int (0 + (i : Nat))), some (.int (mn : Nat)), some (.ref p), some (.ref r), some (.int (0 + (j : Nat))), some (.ref lt), some (.ref fa), some (.bl hb), some v1, some v2, some (.ref bs), x13, x14, none] ∧ LwK C b g p r dr ca ga lt fa cs gs ls f v1 v2 G ∧ FactsAt G bs fs ∧ (∀ m ∈ fs, GF m) ∧ fs.length ≤ 40) ?_ (fun hrest => ?_)
    rotate_left
    · refine ⟨_, rfl, _, rfl, ?_⟩
      rcases hK.t2 with ⟨dd, rfl⟩ | ⟨nd, x, fs, rfl, hF, hA⟩
      · rw [hhb.mpr dd] at *
        refine iteT ⟨_, rfl, _, rfl, p, ca, ga, cs, gs, Dp, rfl, hK.i.pt, hK.i.cl, hK.i.gr, hG, hD, fun G1 l1 as1 fs1 t1 hl1 hp1 hg1 hn1 => ?_⟩
        have la1 := Paired.len hp1
        have hK1 := hK.same t1
        refine ⟨b, g, l1, _, rfl, hK1.i.hb, hl1, by rw [List.length_map]; omega, fun G2 l2 ys bl2 hB2 hl2 hperm => ⟨5, rfl, l2, ys, rfl, SqL.of hl2, fun l3 n3 => .inl ⟨l3, _, rfl, SqL.of upd_same, fun t nt => ?_⟩⟩⟩
        have u1 := same_upd (o := HO.lst (cutV ys none (some 5))) n3
        have u2 := same_upd (o := HO.tup (cutV ys none (some 5))) nt
        have u12 := u1.trans u2
        have hK2 := (hK1.step bl2 hB2).same u12
        have tk := TK.trans (hK1.i.hb.tk bl2) (.same u12)
        have ec : cutV ys none (some 5) = ys.take 5 := cutTo ys 5
        obtain ⟨as2, ms, e2, hp2, hm2⟩ := refs_of2 (H := upd (upd G2 l3 (.lst (cutV ys none (some 5)))) t (.tup (cutV ys none (some 5)))) (fs := fs1) (ys := cutV ys none (some 5)) fun y hy => by
          rw [ec] at hy
          obtain ⟨c, m, rfl, hc, hm⟩ := pair_ref hp1 (hperm.mem_iff.mp (List.mem_of_mem_take hy))
          exact ⟨c, m, rfl, FactAt.tk hc tk, hm⟩
        refine hrest _ _ ⟨t, ms, _, _, rfl, hK2, ⟨as2, by rw [upd_same, e2], hp2⟩, fun m hm => hg1 m (hm2 m hm), ?_⟩
        rw [← Paired.len hp2, ← List.length_map (f := V.ref), ← e2, ec, List.length_take]
        omega
      · rw [Bool.eq_false_iff.mpr (fun z => nd (hhb.mp z))] at *
        exact iteF ⟨_, rfl, hrest _ _ ⟨x, fs, _, _, rfl, hK, hF, fun m hm => der_gf hG ((hA.mem m).mp hm), Nat.le_trans (all_len hD hA) (by decide)⟩⟩
    clear hK
    rintro σ G ⟨bs, fs, x13, x14, rfl, hK, hFb, hFg, hFl⟩
    refine seq_set ⟨4, rfl, by decide, by decide, fun D nD => ?_⟩
    refine comp_things (j := 15) hK.i.hb nD (fun _ => rfl) (fun G1 v Q' bl1 hB1 hq => ⟨_, rfl, _, rfl, _, rfl, _, rfl, b, g, p, bs, fa, cs, gs, Dp, fs, f, rfl, hB1, (hK.step bl1 hB1).i.P, hG, hD, hFb.tk (hK.i.hb.tk bl1), hFg, hFl, (hK.step bl1 hB1).fa, gf, hq⟩) (fun G1 us bl1 hB1 hD1 hus hut => ?_)
    refine ⟨_, rfl, by show 1 ≤ sizeLine; decide, fun l2 n2 => ⟨D, l2, us, [v2], rfl, rfl, (same_upd n2) _ _ hD1, upd_same, Nat.le_trans (show us.length + 1 ≤ 5 by omega) (by decide), fun l3 n3 => ?_⟩⟩
    have u1 := same_upd (o := HO.lst [v2]) n2
    have u2 := same_upd (o := HO.lst (us ++ [v2])) n3
    have u12 := u1.trans u2
    have hK3 := (hK.step bl1 hB1).same u12
    have hl3 : (upd (upd G1 l2 (.lst [v2])) l3 (.lst (us ++ [v2]))) l3 = some (.lst (us ++ [v2])) := upd_same
    have ht3 : ∀ u ∈ us ++ [v2], Thg b (upd (upd G1 l2 (.lst [v2])) l3 (.lst (us ++ [v2]))) u := fun u hu => by
      rcases List.mem_append.mp hu with z | z
      · exact (hut u z).same u12
      · rw [List.mem_singleton.mp z]; exact hK3.th2 hG hD
    generalize upd (upd G1 l2 (.lst [v2])) l3 (.lst (us ++ [v2])) = G3 at *
    clear u1 u2 u12 n2 n3 hut hD1 hB1 bl1 hFb hK
    refine ⟨_, rfl, l3, rfl, ⟨_, SqL.of hl3⟩, ?_⟩
    refine for_it (walk_list (xs := us ++ [v2])) (fun _ σ G => ∃ x14, σ = [some (.ref a), some (.ref b), some (.int (0 + (i : Nat))), some (.int (mn : Nat)), some (.ref p), some (.ref r), some (.int (0 + (j : Nat))), some (.ref lt), some (.ref fa), some (.bl hb), some v1, some v2, some (.ref bs), some (.ref l3), x14, none] ∧ LwK C b g p r dr ca ga lt fa cs gs ls f v1 v2 G ∧ G l3 = some (.lst (us ++ [v2])) ∧ ∀ u ∈ us ++ [v2], Thg b G u) ⟨_, rfl, hK3, hl3, ht3⟩ (fun _ _ G _ h => ?_) ?_ ?_
    · obtain ⟨_, _, _, h, _⟩ := h
      exact SqL.of h
    · rintro i2 y σ G G' hi2 ⟨x14, rfl, hKg, hl, ht⟩ ⟨rfl, hy⟩
      have ty := ht y (List.mem_of_getElem? hy)
      refine ⟨_, rfl, _, rfl, _, rfl, _, rfl, b, r, lt, fa, dr, ca, ga, cs, gs, ls, f, y, rfl, hKg.i.ru, hG, hKg.lt, hLot, hKg.fa, gf, ty, fun G1 t1 => ?_⟩
      have hKh := hKg.same t1
      refine ⟨_, rfl, _, rfl, _, rfl, _, rfl, b, p, lt, fa, cs, gs, ls, f, y, rfl, hKh.i.P, hG, hKh.lt, hLot, hKh.fa, gf, ty.same t1, fun G2 t2 => ⟨_, _, rfl, ?_, fun G3 t3 => ⟨_, rfl, iteF ⟨_, rfl, (hKh.same t2).same t3, t3 _ _ (t2 _ _ (t1 _ _ hl)), fun u hu => (((ht u hu).same t1).same t2).same t3⟩⟩⟩⟩
      rw [clB_bl ty (.same t1)]
      exact EqN.atm (.boo _)
    · rintro σ G ⟨x14, rfl, hKg, _, _⟩
      exact ⟨_, _, _, _, _, _, _, _, _, rfl, hKg.i⟩
end
end L2.My
end
section
set_option Elab.async false
set_option linter.all false
set_option maxRecDepth 100000
set_option maxHeartbeats 4000000
/-! A rule is made, by what may raise. -/
namespace L2.My
open PySem PySem.Spec PyProof.Rows
/-- what makes a rule -/
structure MkRu (P : Program) (w : World) (K : PySem.W.Frag) (mg : Str → Option Value) (base : Heap) (k : Nat) (C B : Addr) where
  f : Addr
  fd : FuncData
  M : Mk K C f
  F : FnOk P w K mg base (CX P w) k f fd ["self", "clauses", "grounds"] (spRule C B)
  g : mg "Rule" = some (.ref C)
  b : Binds K fd ["self", "clauses", "grounds"] []
theorem pass_no {X : Cx} : Passes (CX X.prog X.w) X E0 := fun pins σ H s e s' I h => by
  obtain ⟨_, _, _, _, _, _, _, _, _, _, _, _, hE⟩ := h
  exact hE.elim
section
variable {P : Program} {w : World} {K : PySem.W.Frag} {mg : Str → Option Value} {base : Heap}
variable {C B : Addr}
theorem ok_madeR {f : Addr} {fd : FuncData} {k : Nat} (F : Fun K "_law_made" "_law_made" sMade f fd) (T : Tx mg) (R : MkRu P w K mg base (k + 5) C B) : FnOk P w K mg base CX0 (k + 7) f fd ["parts"] (spMade C) := by
  refine F.ok scMade (fun vs H Q E h => ?_) (fun cdv A outer s H vs Q E hr h => ?_)
  · obtain ⟨p, ca, ga, cs, gs, rfl, _⟩ := h
    rfl
  · obtain ⟨p, ca, ga, cs, gs, rfl, hp, hc, hg, hG, q⟩ := h
    refine ⟨_, (pss_one (ps_ret (pe_make R.M R.F (hr.mono (by omega)) (by rfl) R.g R.b .nil pass_no (pa_cons (pe_ix ix_tup (pv 0) pe_int (fun _ _ => rfl)) (pa_cons (pe_ix ix_tup (pv 0) pe_int (fun _ _ => rfl)) pa_nil))))), ?_⟩
    refine ⟨_, rfl, p, _, _, .ref ca, rfl, rfl, .of hp, atI_nat (j := 0) rfl, _, rfl, p, _, _, .ref ga, rfl, rfl, .of hp, atI_nat (j := 1) rfl, fun x dx nx ndx ne => ?_⟩
    have s1 : Same H (upd (upd H dx (.own x)) x (.ins C dx [])) := (same_upd ndx).trans (same_upd (by rw [upd_ne (Ne.symm ne)]; exact nx))
    have hx1 : (upd (upd H dx (.own x)) x (.ins C dx [])) x = some (.ins C dx []) := upd_same
    have nt : NoTup (upd (upd H dx (.own x)) x (.ins C dx [])) x := fun xs e => by rw [hx1] at e; cases e
    have hc1 := hc.tk (.same s1)
    have hg1 := hg.tk (.same s1)
    refine ⟨x, x, dx, .ref ca, .ref ga, rfl, hx1, thg_cls nt hc1 hG.cl (Nat.le_trans hG.nc (by decide)), thg_grs nt hg1 (fun y hy => ⟨hG.gr y hy, Nat.le_trans (hG.nf y hy) (by decide)⟩) (Nat.le_trans hG.ng (by decide)), fun _ H' bl hx2 => ⟨rfl, q _ x dx (fun a o e => bl a o (by
      rw [List.mem_singleton]
      intro e2
      rw [e2, nx] at e; cases e) (s1 a o e)) ⟨hx2, hc1.tk (.bl bl (fun p hp => by rw [List.mem_singleton.mp hp]; exact nt)), hg1.tk (.bl bl (fun p hp => by rw [List.mem_singleton.mp hp]; exact nt))⟩⟩, fun p hp => by rw [fault_ok hc1 hg1 hG] at hp; cases hp⟩
end
end L2.My
end
section
set_option Elab.async false
set_option linter.all false
set_option maxRecDepth 100000
set_option maxHeartbeats 4000000
/-! A Hook of facts by names, of defs, and of one more Bool. -/
namespace L2.My
open PySem PySem.Spec PyProof.Rows He
abbrev AlY : Type := Al × Bool
def obsY (fa : List Fa) (fn : List FnD) (ex : PySem.W.Frag → Bool) (K : PySem.W.Frag) : AlY := (obsE fa fn K, ex K && fn.all fun d => PySem.W.keepIn K (.ref (fAd K d.at_)))
def valY (fn : List FnD) : AlY := (valE fn, true)
def obsYG (n : Nat) (fa : List Fa) (fn : List FnD) (ex : PySem.W.Frag → Bool) (g : Addr → Option Obj) : AlY := obsY fa fn ex (frG g (asD g n))
structure SaysY (fa : List Fa) (fn : List FnD) (ex : PySem.W.Frag → Bool) (K : PySem.W.Frag) : Prop where
  e : SaysE fa fn K
  more : ex K = true
  kp : ∀ d ∈ fn, PySem.W.keepIn K (.ref (fAd K d.at_)) = true
theorem saysY_of {fa : List Fa} {fn : List FnD} {ex : PySem.W.Frag → Bool} {K : PySem.W.Frag} (e : obsY fa fn ex K = valY fn) : SaysY fa fn ex K := by
  have e1 : obsE fa fn K = valE fn := congrArg (fun z : AlY => z.1) e
  have e2 : (ex K && fn.all fun d => PySem.W.keepIn K (.ref (fAd K d.at_))) = true := congrArg (fun z : AlY => z.2) e
  obtain ⟨h1, h2⟩ := ba e2
  exact ⟨e1, h1, fun d hd => List.all_eq_true.mp h2 d hd⟩
def hookY (n : Nat) (fa : List Fa) (fn : List FnD) (ex : PySem.W.Frag → Bool) : PySem.W.Hook where
  α := AlY
  obs := fun s => obsYG n fa fn ex s.heap.get?
  val := fun _ => valY fn
  says := fun _ h => ∃ K : PySem.W.Frag, K.In h ∧ SaysY fa fn ex K
  of := fun _ _ e => ⟨_, frG_in, saysY_of e⟩
  keeps := fun _ _ _ ⟨K, hK, c⟩ k => ⟨K, PySem.W.Frag.In.keeps hK k, c⟩
theorem obsYG_eq {n : Nat} {fa : List Fa} {fn : List FnD} {ex : PySem.W.Frag → Bool} {g : Addr → Option Obj} {s : Shared} (h : ∀ a, g a = s.heap.get? a) : obsYG n fa fn ex g = (hookY n fa fn ex).obs s := by
  have e : g = s.heap.get? := funext h
  rw [e] <;> rfl
section
variable {fa : List Fa} {fn : List FnD} {ex : PySem.W.Frag → Bool} {K : PySem.W.Frag}
theorem SaysY.fact (c : SaysY fa fn ex K) {f : Fa} (h : f ∈ fa) : f.ok K = true := by
  obtain ⟨i, hi, e⟩ := List.mem_iff_getElem.mp h
  exact c.e.fact i (f := f) (by rw [List.getElem?_eq_getElem hi, e])
/-- a def of the text, by its place in the list -/
theorem SaysY.fun_ (c : SaysY fa fn ex K) {d : FnD} {st : Stmt} (h : d ∈ fn) (hp : d.params = defArgs st) (hb : d.body = defBody st) (hs : d.scope = defScope st) : ∃ fd, Fun K d.name d.qual st (fAd K d.at_) fd := by
  obtain ⟨i, hi, e⟩ := List.mem_iff_getElem.mp h
  obtain ⟨oc, od, osl, kV, doc, pm, an, cdv, ct, lk, hc⟩ := c.e.def_ i (d := d) (by rw [List.getElem?_eq_getElem hi, e])
  rw [hp, hb, hs] at lk
  exact ⟨_, fun_mk lk hc (c.kp d h)⟩
end
/-! ### an own exception class, decided -/
def exB (K : PySem.W.Frag) (C : Addr) : Bool := match K.lookup C with
  | some ⟨.type "type", _, .cls cd, sl⟩ => (match cd.mro, sl.toList with
    | .ref C' :: bm, [_, _, _, _, some (.builtin n), _] => C' == C && n == "ValueError.__new__" && !cd.hasDel && PySem.HandSPX.refsVE bm && cd.hasDict
    | _, _ => false)
  | _ => false
theorem exB_ok {K : PySem.W.Frag} {C : Addr} (q : exB K C = true) : ∃ nm q N bs bm sn sub ab col dd k0 k1 k2 k3 k5, K.lookup C = some (excClassObj nm q C N bs bm true sn sub ab col dd k0 k1 k2 k3 k5 "ValueError.__new__") ∧ PySem.HandSPX.refsVE bm = true := by
  unfold exB at q
  split at q
  · rename_i dd cd sl ho
    split at q
    · rename_i C' bm k0 k1 k2 k3 n k5 hm hs
      simp only [Bool.and_eq_true, beq_iff_eq, Bool.not_eq_true'] at q
      obtain ⟨⟨⟨⟨rfl, rfl⟩, hdel⟩, hr⟩, hd⟩ := q
      obtain ⟨nm, bs, mro, ns, qn, hdct, sn, sub, ab, col, del⟩ := cd
      dsimp only at hm hdel hd
      subst hm hdel hd
      have hsl : sl = #[k0, k1, k2, k3, some (.builtin "ValueError.__new__"), k5] := by
        obtain ⟨l⟩ := sl
        simp only at hs
        rw [hs]
      subst hsl
      exact ⟨nm, qn, ns, bs, bm, sn, sub, ab, col, dd, k0, k1, k2, k3, k5, ho, hr⟩
    · cases q
  · cases q
def eqV (a b : Option Value) : Bool := decide (a = b)
theorem eqV_ok {a b : Option Value} (h : eqV a b = true) : a = b := of_decide_eq_true h
def eqB (a b : Option Bool) : Bool := decide (a = b)
theorem eqB_ok {a b : Option Bool} (h : eqB a b = true) : a = b := of_decide_eq_true h
def xcB (K : PySem.W.Frag) (C : Addr) : Bool := exB K C && (eqO (PySem.W.findIn K (.ref C) "__setattr__") (some (some (.builtin "object.__setattr__"))) && (eqB (PySem.W.subIn K (.ref C) (.type "BaseException")) (some true) && (eqV (PySem.W.typeIn K (.ref C)) (some (.type "type")) && (PySem.W.keepIn K (.ref C) &&
  (eqO (PySem.W.findIn K (.ref C) "__getattribute__") (some (some (.builtin "BaseException.__getattribute__"))) && (eqO (PySem.W.findIn K (.ref C) "__getattr__") (some none) && (eqO (PySem.W.findIn K (.ref C) "__class__") (some (some (.builtin "object.__class__"))) &&
  (eqO (PySem.W.specialIn K (.builtin "object.__class__") "__get__") (some (some (.builtin "getset_descriptor.__get__"))) && (eqB (PySem.W.takesIn K (.builtin "object.__class__")) (some true) && (eqB (PySem.W.mroIn K C (.type "object")) (some true) && PySem.W.hasDictIn K C))))))))))
theorem xcB_ok {K : PySem.W.Frag} {C : Addr} (q : xcB K C = true) : XC K C := by
  obtain ⟨h1, q⟩ := ba q
  obtain ⟨h2, q⟩ := ba q
  obtain ⟨h3, q⟩ := ba q
  obtain ⟨h4, q⟩ := ba q
  obtain ⟨h5, q⟩ := ba q
  obtain ⟨h6, q⟩ := ba q
  obtain ⟨h7, q⟩ := ba q
  obtain ⟨h8, q⟩ := ba q
  obtain ⟨h9, q⟩ := ba q
  obtain ⟨h10, q⟩ := ba q
  obtain ⟨h11, h12⟩ := ba q
  exact ⟨⟨exB_ok h1, eqO_ok h2, eqB_ok h3, eqV_ok h4, h5⟩, eqO_ok h6, eqO_ok h7, eqO_ok h8, eqO_ok h9, eqB_ok h10, eqB_ok h11, h12⟩
end L2.My
end
section
set_option Elab.async false
set_option linter.all false
set_option maxRecDepth 100000
set_option maxHeartbeats 4000000
namespace L2.My
open PySem PySem.Spec PyProof.Rows He
/-! The head of k52: what is looked at. -/
theorem fun_of {K : PySem.W.Frag} {x q : Str} {st : Stmt} {f : Addr} {fd : FuncData} (F : FunD K x q (defArgs st) (defBody st) (defScope st) [] [] f fd) : Fun K x q st f fd := by
  obtain ⟨oc, od, dV, kV, doc, pm, an, cdv, ct, osl, e, l, c, d, _⟩ := F.ex
  rcases d with ⟨_, rfl⟩ | ⟨h, _⟩
  · exact ⟨⟨oc, od, kV, doc, pm, an, cdv, ct, osl, e, l, c⟩, F.kp⟩
  · exact absurd rfl h
def eD (x : Str) (st : Stmt) : DefD := { at_ := (x, none), name := x, qual := x, params := defArgs st, body := defBody st, scope := defScope st }
def eM (C m q : Str) (st : Stmt) : DefD := { at_ := (C, some m), name := m, qual := q, params := defArgs st, body := defBody st, scope := defScope st }
def fnK : List DefD := [eD "is_below" sBelow, eD "is_word" sWord, eD "ascends" sAsc, eD "is_fact" sFact, eD "is_tuple_of" sTupOf, eD "is_facts" sFacts, eD "is_clause" sClause, eD "check_lot" sLot, eD "check_asked" sAsked, eD "held" sHeld, eD "reasons" sReas, eD "is_reasons" sIrs, eD "is_reason" sIsr, eD "closed" sClo, eD "is_closed" sIcl, eD "_law_hand" sHand, eD "_law_draw" sDraw, eD "_law_any" sAny, eD "_law_mixed" sMix, eD "_law_nested" sNest, eD "_law_is" sIs, eD "_law_fact" sLfact, eD "_law_pool" sPool, eD "_law_parts" sParts, eD "_law_made" sMade, eD "_law_ground_facts" sGf, eD "_law_asked" sAskd, eD "_law_lot" sLlot, eD "_law_rounds" sRnd, eD "_law_facts" sFacs, eD "_law_is_fact" sLif, eD "_law_is_number" sNum, eD "_law_is_from" sLfr, eD "_law_are_reasons" sLar, eD "_law_is_closed" sLic, eD "_law_bent_reasons" sBr, eD "_law_bent_closed" sBc, eD "law" sLaw,
  eM "BadRule" "__init__" "BadRule.__init__" sBad, eM "Rule" "__init__" "Rule.__init__" (mR 0), eM "Deriver" "__init__" "Deriver.__init__" (mD 0), eM "Deriver" "derived" "Deriver.derived" (mD 1)]
def gloK : List Str := [("is_below" : Str), ("is_word" : Str), ("ascends" : Str), ("is_fact" : Str), ("is_tuple_of" : Str), ("is_facts" : Str), ("is_clause" : Str), ("check_lot" : Str), ("check_asked" : Str), ("held" : Str), ("reasons" : Str), ("is_reasons" : Str), ("is_reason" : Str), ("closed" : Str), ("is_closed" : Str), ("_law_hand" : Str), ("_law_draw" : Str), ("_law_any" : Str), ("_law_mixed" : Str), ("_law_nested" : Str), ("_law_is" : Str), ("_law_fact" : Str), ("_law_pool" : Str), ("_law_parts" : Str), ("_law_made" : Str), ("_law_ground_facts" : Str), ("_law_asked" : Str), ("_law_lot" : Str), ("_law_rounds" : Str), ("_law_facts" : Str), ("_law_is_fact" : Str), ("_law_is_number" : Str), ("_law_is_from" : Str), ("_law_are_reasons" : Str), ("_law_is_closed" : Str), ("_law_bent_reasons" : Str), ("_law_bent_closed" : Str), ("law" : Str), ("Rule" : Str), ("BadRule" : Str), ("Deriver" : Str), ("PostError" : Str)]
def freeK : List Str := ["isinstance", "int", "bool", "str", "len", "all", "tuple", "list", "sorted", "range", "enumerate", "abs", "zip", "set", "ValueError"]
def noaR : List Str := ["clauses", "grounds"]
def noaD : List Str := ["rule", "uses", "sizes", "bare"]
def restK : List Fa := [.int "MOST_LETTERS" 12, .int "NUMBER_BOUND" 1000000000000, .int "MOST_NUMBERS" 4, .int "MOST_BODY" 4, .int "MOST_CLAUSES" 20000, .int "MOST_GROUNDS" 60, .int "MOST_FACTS" 5000, .cls "Rule", .mkr "Rule", .cls "Deriver", .mkr "Deriver", .meth "Deriver" "derived"]
def faK : List Fa := gloK.map .glo ++ (freeK.map .free ++ (restK ++ (noaR.map (.noat "Rule") ++ noaD.map (.noat "Deriver"))))
def exK1 (K : PySem.W.Frag) : Bool := xcB K (ga K "BadRule") && (eqO (PySem.W.findIn K (.ref (ga K "BadRule")) "part") (some none) && (eqO (PySem.W.findIn K (.ref (ga K "BadRule")) "__init__") (some (some (.ref (ma K (ga K "BadRule") "__init__")))) &&
  (eqV (PySem.W.typeIn K (.ref (ma K (ga K "BadRule") "__init__"))) (some (.type "function")) && (eqB (PySem.W.kitOne K (.ref (ga K "BadRule")) (.ref (ga K "PostError"))) (some true) && (eqB (PySem.W.kitOne K (.ref (ga K "BadRule")) (.type "ValueError")) (some true) &&
  eqB (PySem.W.exmOne K (.ref (ga K "BadRule")) (.ref (ga K "BadRule"))) (some true))))))
def tsK : List Tab := []
def tfK : List Defn := []
abbrev RK : PySem.W.OpenRow := PySem.W.OpenLaw.row PySem.Challenge.rw_strangerspost_k52_whole_reasons_and_clos
abbrev hkK : PySem.W.Hook := hookX 6 faK fnK tsK tfK exK1
def obK (s : PySem.W.SharedT) : AlX := obsX 6 faK fnK tsK tfK exK1 (HandSHeadRun.getT s)
theorem obK_eq (s : PySem.W.SharedT) : obK s = hkK.obs s.abs := obsX_eq (HandSHeadRun.getT_eq s)
end L2.My
end
section
set_option Elab.async false
set_option linter.all false
set_option maxRecDepth 100000
set_option maxHeartbeats 0
namespace L2.My
open PySem PySem.Spec PyProof.Rows He
abbrev looA : List PySem.Str := ["PostError", "NoLot", "NoFact", "BadRule", "is_below", "MOST_LETTERS", "is_word", "ascends", "NUMBER_BOUND", "MOST_NUMBERS", "MOST_BODY", "MOST_CLAUSES", "MOST_GROUNDS", "MOST_FACTS", "is_fact", "is_tuple_of", "is_facts", "is_clause", "Rule", "Deriver", "check_lot", "check_asked", "held", "reasons", "is_reasons", "is_reason", "closed", "is_closed"]
abbrev looB : List PySem.Str := ["_law_hand", "_law_draw", "_law_any", "_law_mixed", "_law_nested", "_law_is", "_law_fact", "_law_pool", "_law_parts", "_law_made", "_law_ground_facts", "_law_asked", "_law_lot", "_law_rounds", "_law_facts", "_law_is_fact", "_law_is_number", "_law_is_from", "_law_are_reasons", "_law_is_closed", "_law_bent_reasons", "_law_bent_closed"]
theorem lawAt : RK.prog.main.body.length = 56 := by kernel_rfl
theorem law55 : (HandSHeadRun.topDef RK.prog 55).name = ("law" : PySem.Str) := by kernel_rfl
theorem run (w : World) : HandSHeadRun.RunEq RK (PySem.W.view RK.prog [55]) hkK obK 12000 (looA ++ looB) w := by
  intro os
  kernel_rfl
end L2.My
end
section
set_option Elab.async false
set_option linter.all false
set_option maxRecDepth 100000
set_option maxHeartbeats 4000000
namespace L2.My
open PySem PySem.Spec PyProof.Rows He LamX
section
variable {P : Program} {w : World} {K : PySem.W.Frag} {mg : Str → Option Value} {h0 base : Heap}
abbrev SX (w : World) (h : Heap) (K : PySem.W.Frag) : Prop := SaysX faK fnK tsK tfK exK1 w h K
theorem defAt (c : SX w h0 K) (i : Nat) {x : Str} {st : Stmt} (h : fnK[i]? = some (eD x st) := by rfl) : ∃ fd, Fun K x x st (ga K x) fd := by
  obtain ⟨fd, F⟩ := c.t.d.def_ i (d := eD x st) h
  exact ⟨fd, fun_of F⟩
theorem mthAt (c : SX w h0 K) (i : Nat) {C m q : Str} {st : Stmt} (h : fnK[i]? = some (eM C m q st) := by rfl) : ∃ fd, Fun K m q st (ma K (ga K C) m) fd := by
  obtain ⟨fd, F⟩ := c.t.d.def_ i (d := eM C m q st) h
  exact ⟨fd, fun_of F⟩
theorem factM (c : SX w h0 K) {f : Fa} (h : f ∈ faK) : f.ok K = true := c.t.d.facts h
theorem gloM (X : K.In h0) (G : h0.Ns mainGlobals mg) (c : SX w h0 K) {x : Str} (h : x ∈ gloK := by decide +kernel) : mg x = some (.ref (ga K x)) := glo_ok X G (factM c (List.mem_append_left _ (List.mem_map_of_mem h)))
theorem freeM (X : K.In h0) (G : h0.Ns mainGlobals mg) (c : SX w h0 K) {x : Str} (h : x ∈ freeK := by decide +kernel) : mg x = none := free_ok X G (factM c (List.mem_append_right _ (List.mem_append_left _ (List.mem_map_of_mem h))))
theorem restM (c : SX w h0 K) (i : Nat) {f : Fa} (h : restK[i]? = some f := by rfl) : f.ok K = true := factM c (List.mem_append_right _ (List.mem_append_right _ (List.mem_append_left _ (List.mem_of_getElem? h))))
theorem ruC (c : SX w h0 K) : RuC K (ga K "Rule") := ⟨cls_ok (restM c 7), fun f hf => noat_ok (factM c (List.mem_append_right _ (List.mem_append_right _ (List.mem_append_right _ (List.mem_append_left _ (List.mem_map_of_mem (show f ∈ noaR from hf)))))))⟩
theorem deC (c : SX w h0 K) : DeC K (ga K "Deriver") := ⟨cls_ok (restM c 9), fun f hf => noat_ok (factM c (List.mem_append_right _ (List.mem_append_right _ (List.mem_append_right _ (List.mem_append_right _ (List.mem_map_of_mem (show f ∈ noaD from hf)))))))⟩
theorem txt (X : K.In h0) (G : h0.Ns mainGlobals mg) (c : SX w h0 K) : Tx mg :=
  ⟨freeM X G c, freeM X G c, freeM X G c, freeM X G c, freeM X G c, freeM X G c, freeM X G c, freeM X G c, freeM X G c, freeM X G c, freeM X G c, freeM X G c, freeM X G c, freeM X G c, int_ok X G (restM c 0), int_ok X G (restM c 1), int_ok X G (restM c 2), int_ok X G (restM c 3), int_ok X G (restM c 4), int_ok X G (restM c 5), int_ok X G (restM c 6)⟩
structure MoreK (K : PySem.W.Frag) : Prop where
  x : XC K (ga K "BadRule")
  no : PySem.W.findIn K (.ref (ga K "BadRule")) "part" = some none
  i : PySem.W.findIn K (.ref (ga K "BadRule")) "__init__" = some (some (.ref (ma K (ga K "BadRule") "__init__")))
  t : PySem.W.typeIn K (.ref (ma K (ga K "BadRule") "__init__")) = some (.type "function")
  kP : PySem.W.kitOne K (.ref (ga K "BadRule")) (.ref (ga K "PostError")) = some true
  kV : PySem.W.kitOne K (.ref (ga K "BadRule")) (.type "ValueError") = some true
  te : PySem.W.exmOne K (.ref (ga K "BadRule")) (.ref (ga K "BadRule")) = some true
theorem moreK (c : SX w h0 K) : MoreK K := by
  have m := c.more
  unfold exK1 at m
  obtain ⟨m0, m⟩ := ba m
  obtain ⟨m1, m⟩ := ba m
  obtain ⟨m2, m⟩ := ba m
  obtain ⟨m3, m⟩ := ba m
  obtain ⟨m4, m⟩ := ba m
  obtain ⟨m5, m6⟩ := ba m
  exact ⟨xcB_ok m0, eqO_ok m1, eqO_ok m2, eqV_ok m3, eqB_ok m4, eqB_ok m5, eqB_ok m6⟩
def calAt {k : Nat} {x : Str} {ps : List Str} {sp : Sp} {fd : FuncData} {st : Stmt} (X : K.In h0) (G : h0.Ns mainGlobals mg) (c : SX w h0 K) (F : Fun K x x st (ga K x) fd) (H : FnOk P w K mg base CX0 k (ga K x) fd ps sp) (b : Binds K fd ps []) (h : x ∈ gloK := by decide +kernel) : Cal P w K mg base k x ps sp := ⟨ga K x, fd, H, F.kp, gloM X G c h, b⟩
end
end L2.My
end
section
set_option Elab.async false
set_option linter.all false
set_option maxRecDepth 100000
set_option maxHeartbeats 4000000
namespace L2.My
open PySem PySem.Spec PyProof.Rows He LamX
section
variable {P : Program} {w : World} {K : PySem.W.Frag} {mg : Str → Option Value} {h0 : Heap}
theorem facts {f : Addr} (X : K.In h0) (G : h0.Ns mainGlobals mg) (hfa : mg ("law" : Str) = some (.ref f)) (c : SX w h0 K) :
    ∃ fd : FuncData, (∀ (s : Shared) (v : Value), BindsTo s fd ⟨[v], []⟩ [("script", v)]) ∧ ∀ base : Heap, K.In base → base.Ns mainGlobals mg → (∀ p ∈ ([] : List (Addr × Addr)), TabB base mg p.1 p.2) → FnOk P w K mg base CX0 8 f fd ["script"] (spLaw K) := by
  have e := hfa.symm.trans (gloM X G c (x := "law"))
  cases e
  obtain ⟨fdLaw, FLaw⟩ := defAt c 37 (x := "law") (st := sLaw)
  refine ⟨fdLaw, fun s v => ?_, fun base _ _ _ => ?_⟩
  · obtain ⟨oc, od, kV, doc, pm, an, cdv, ct, osl, rfl, lk, hcd⟩ := FLaw.ex
    exact .of_eq rfl
  have T := txt X G c
  have rc := ruC c
  have dc := deC c
  have m := moreK c
  obtain ⟨fdBel, FBel⟩ := defAt c 0 (x := "is_below") (st := sBelow)
  obtain ⟨fdWor, FWor⟩ := defAt c 1 (x := "is_word") (st := sWord)
  obtain ⟨fdAsc, FAsc⟩ := defAt c 2 (x := "ascends") (st := sAsc)
  obtain ⟨fdFac, FFac⟩ := defAt c 3 (x := "is_fact") (st := sFact)
  obtain ⟨fdTup, FTup⟩ := defAt c 4 (x := "is_tuple_of") (st := sTupOf)
  obtain ⟨fdFcs, FFcs⟩ := defAt c 5 (x := "is_facts") (st := sFacts)
  obtain ⟨fdCla, FCla⟩ := defAt c 6 (x := "is_clause") (st := sClause)
  obtain ⟨fdClt, FClt⟩ := defAt c 7 (x := "check_lot") (st := sLot)
  obtain ⟨fdCas, FCas⟩ := defAt c 8 (x := "check_asked") (st := sAsked)
  obtain ⟨fdHel, FHel⟩ := defAt c 9 (x := "held") (st := sHeld)
  obtain ⟨fdRea, FRea⟩ := defAt c 10 (x := "reasons") (st := sReas)
  obtain ⟨fdIrs, FIrs⟩ := defAt c 11 (x := "is_reasons") (st := sIrs)
  obtain ⟨fdIsr, FIsr⟩ := defAt c 12 (x := "is_reason") (st := sIsr)
  obtain ⟨fdClo, FClo⟩ := defAt c 13 (x := "closed") (st := sClo)
  obtain ⟨fdIcl, FIcl⟩ := defAt c 14 (x := "is_closed") (st := sIcl)
  obtain ⟨fdHan, FHan⟩ := defAt c 15 (x := "_law_hand") (st := sHand)
  obtain ⟨fdDra, FDra⟩ := defAt c 16 (x := "_law_draw") (st := sDraw)
  obtain ⟨fdAny, FAny⟩ := defAt c 17 (x := "_law_any") (st := sAny)
  obtain ⟨fdMix, FMix⟩ := defAt c 18 (x := "_law_mixed") (st := sMix)
  obtain ⟨fdNes, FNes⟩ := defAt c 19 (x := "_law_nested") (st := sNest)
  obtain ⟨fdIs, FIs⟩ := defAt c 20 (x := "_law_is") (st := sIs)
  obtain ⟨fdLfa, FLfa⟩ := defAt c 21 (x := "_law_fact") (st := sLfact)
  obtain ⟨fdPoo, FPoo⟩ := defAt c 22 (x := "_law_pool") (st := sPool)
  obtain ⟨fdPar, FPar⟩ := defAt c 23 (x := "_law_parts") (st := sParts)
  obtain ⟨fdMad, FMad⟩ := defAt c 24 (x := "_law_made") (st := sMade)
  obtain ⟨fdGfa, FGfa⟩ := defAt c 25 (x := "_law_ground_facts") (st := sGf)
  obtain ⟨fdAsk, FAsk⟩ := defAt c 26 (x := "_law_asked") (st := sAskd)
  obtain ⟨fdLlo, FLlo⟩ := defAt c 27 (x := "_law_lot") (st := sLlot)
  obtain ⟨fdRnd, FRnd⟩ := defAt c 28 (x := "_law_rounds") (st := sRnd)
  obtain ⟨fdFas, FFas⟩ := defAt c 29 (x := "_law_facts") (st := sFacs)
  obtain ⟨fdLif, FLif⟩ := defAt c 30 (x := "_law_is_fact") (st := sLif)
  obtain ⟨fdNum, FNum⟩ := defAt c 31 (x := "_law_is_number") (st := sNum)
  obtain ⟨fdLfr, FLfr⟩ := defAt c 32 (x := "_law_is_from") (st := sLfr)
  obtain ⟨fdLar, FLar⟩ := defAt c 33 (x := "_law_are_reasons") (st := sLar)
  obtain ⟨fdLic, FLic⟩ := defAt c 34 (x := "_law_is_closed") (st := sLic)
  obtain ⟨fdBre, FBre⟩ := defAt c 35 (x := "_law_bent_reasons") (st := sBr)
  obtain ⟨fdBcl, FBcl⟩ := defAt c 36 (x := "_law_bent_closed") (st := sBc)
  obtain ⟨fdBI, FBI⟩ := mthAt c 38 (C := "BadRule") (m := "__init__") (q := "BadRule.__init__") (st := sBad)
  obtain ⟨fdRI, FRI⟩ := mthAt c 39 (C := "Rule") (m := "__init__") (q := "Rule.__init__") (st := mR 0)
  obtain ⟨fdDI, FDI⟩ := mthAt c 40 (C := "Deriver") (m := "__init__") (q := "Deriver.__init__") (st := mD 0)
  obtain ⟨fdDD, FDD⟩ := mthAt c 41 (C := "Deriver") (m := "derived") (q := "Deriver.derived") (st := mD 1)
  have bBel : Binds K fdBel ["bound", "thing"] [] := FBel.binds (ps := ["bound", "thing"]) fun _ _ _ _ _ _ us hl => match us, hl with | [_, _], _ => rfl
  have bWor : Binds K fdWor ["thing"] [] := FWor.binds (ps := ["thing"]) fun _ _ _ _ _ _ us hl => match us, hl with | [_], _ => rfl
  have bAsc : Binds K fdAsc ["things"] [] := FAsc.binds (ps := ["things"]) fun _ _ _ _ _ _ us hl => match us, hl with | [_], _ => rfl
  have bFac : Binds K fdFac ["thing"] [] := FFac.binds (ps := ["thing"]) fun _ _ _ _ _ _ us hl => match us, hl with | [_], _ => rfl
  have bTup : Binds K fdTup ["most", "thing"] [] := FTup.binds (ps := ["most", "thing"]) fun _ _ _ _ _ _ us hl => match us, hl with | [_, _], _ => rfl
  have bFcs : Binds K fdFcs ["most", "thing"] [] := FFcs.binds (ps := ["most", "thing"]) fun _ _ _ _ _ _ us hl => match us, hl with | [_, _], _ => rfl
  have bCla : Binds K fdCla ["thing"] [] := FCla.binds (ps := ["thing"]) fun _ _ _ _ _ _ us hl => match us, hl with | [_], _ => rfl
  have bClt : Binds K fdClt ["rule", "lot"] [] := FClt.binds (ps := ["rule", "lot"]) fun _ _ _ _ _ _ us hl => match us, hl with | [_, _], _ => rfl
  have bCas : Binds K fdCas ["rule", "lot", "fact"] [] := FCas.binds (ps := ["rule", "lot", "fact"]) fun _ _ _ _ _ _ us hl => match us, hl with | [_, _, _], _ => rfl
  have bHel : Binds K fdHel ["rule", "lot"] [] := FHel.binds (ps := ["rule", "lot"]) fun _ _ _ _ _ _ us hl => match us, hl with | [_, _], _ => rfl
  have bRea : Binds K fdRea ["rule", "lot", "fact"] [] := FRea.binds (ps := ["rule", "lot", "fact"]) fun _ _ _ _ _ _ us hl => match us, hl with | [_, _, _], _ => rfl
  have bIrs : Binds K fdIrs ["rule", "lot", "fact", "thing"] [] := FIrs.binds (ps := ["rule", "lot", "fact", "thing"]) fun _ _ _ _ _ _ us hl => match us, hl with | [_, _, _, _], _ => rfl
  have bIsr : Binds K fdIsr ["rule", "grounds", "ahead", "fact", "thing"] [] := FIsr.binds (ps := ["rule", "grounds", "ahead", "fact", "thing"]) fun _ _ _ _ _ _ us hl => match us, hl with | [_, _, _, _, _], _ => rfl
  have bClo : Binds K fdClo ["rule", "lot", "fact"] [] := FClo.binds (ps := ["rule", "lot", "fact"]) fun _ _ _ _ _ _ us hl => match us, hl with | [_, _, _], _ => rfl
  have bIcl : Binds K fdIcl ["rule", "lot", "fact", "thing"] [] := FIcl.binds (ps := ["rule", "lot", "fact", "thing"]) fun _ _ _ _ _ _ us hl => match us, hl with | [_, _, _, _], _ => rfl
  have bHan : Binds K fdHan ["script"] [] := FHan.binds (ps := ["script"]) fun _ _ _ _ _ _ us hl => match us, hl with | [_], _ => rfl
  have bDra : Binds K fdDra ["hand", "many"] [] := FDra.binds (ps := ["hand", "many"]) fun _ _ _ _ _ _ us hl => match us, hl with | [_, _], _ => rfl
  have bAny : Binds K fdAny ["hand", "items"] [] := FAny.binds (ps := ["hand", "items"]) fun _ _ _ _ _ _ us hl => match us, hl with | [_, _], _ => rfl
  have bMix : Binds K fdMix ["hand", "items"] [] := FMix.binds (ps := ["hand", "items"]) fun _ _ _ _ _ _ us hl => match us, hl with | [_, _], _ => rfl
  have bNes : Binds K fdNes ["hand"] [] := FNes.binds (ps := ["hand"]) fun _ _ _ _ _ _ us hl => match us, hl with | [_], _ => rfl
  have bIs : Binds K fdIs ["given", "due"] [] := FIs.binds (ps := ["given", "due"]) fun _ _ _ _ _ _ us hl => match us, hl with | [_, _], _ => rfl
  have bLfa : Binds K fdLfa ["hand"] [] := FLfa.binds (ps := ["hand"]) fun _ _ _ _ _ _ us hl => match us, hl with | [_], _ => rfl
  have bPoo : Binds K fdPoo ["hand", "many"] [] := FPoo.binds (ps := ["hand", "many"]) fun _ _ _ _ _ _ us hl => match us, hl with | [_, _], _ => rfl
  have bPar : Binds K fdPar ["hand", "most", "grounds"] [] := FPar.binds (ps := ["hand", "most", "grounds"]) fun _ _ _ _ _ _ us hl => match us, hl with | [_, _, _], _ => rfl
  have bMad : Binds K fdMad ["parts"] [] := FMad.binds (ps := ["parts"]) fun _ _ _ _ _ _ us hl => match us, hl with | [_], _ => rfl
  have bGfa : Binds K fdGfa ["parts", "lot"] [] := FGfa.binds (ps := ["parts", "lot"]) fun _ _ _ _ _ _ us hl => match us, hl with | [_, _], _ => rfl
  have bAsk : Binds K fdAsk ["hand", "parts"] [] := FAsk.binds (ps := ["hand", "parts"]) fun _ _ _ _ _ _ us hl => match us, hl with | [_, _], _ => rfl
  have bLlo : Binds K fdLlo ["hand", "many"] [] := FLlo.binds (ps := ["hand", "many"]) fun _ _ _ _ _ _ us hl => match us, hl with | [_, _], _ => rfl
  have bRnd : Binds K fdRnd ["parts", "lot", "without"] [] := FRnd.binds (ps := ["parts", "lot", "without"]) fun _ _ _ _ _ _ us hl => match us, hl with | [_, _, _], _ => rfl
  have bFas : Binds K fdFas ["parts"] [] := FFas.binds (ps := ["parts"]) fun _ _ _ _ _ _ us hl => match us, hl with | [_], _ => rfl
  have bLif : Binds K fdLif ["thing"] [] := FLif.binds (ps := ["thing"]) fun _ _ _ _ _ _ us hl => match us, hl with | [_], _ => rfl
  have bNum : Binds K fdNum ["thing", "many"] [] := FNum.binds (ps := ["thing", "many"]) fun _ _ _ _ _ _ us hl => match us, hl with | [_, _], _ => rfl
  have bLfr : Binds K fdLfr ["parts", "lot", "one", "told", "known"] [] := FLfr.binds (ps := ["parts", "lot", "one", "told", "known"]) fun _ _ _ _ _ _ us hl => match us, hl with | [_, _, _, _, _], _ => rfl
  have bLar : Binds K fdLar ["parts", "lot", "fact", "thing"] [] := FLar.binds (ps := ["parts", "lot", "fact", "thing"]) fun _ _ _ _ _ _ us hl => match us, hl with | [_, _, _, _], _ => rfl
  have bLic : Binds K fdLic ["parts", "lot", "fact", "thing"] [] := FLic.binds (ps := ["parts", "lot", "fact", "thing"]) fun _ _ _ _ _ _ us hl => match us, hl with | [_, _, _, _], _ => rfl
  have bBre : Binds K fdBre ["hand", "parts", "thing"] [] := FBre.binds (ps := ["hand", "parts", "thing"]) fun _ _ _ _ _ _ us hl => match us, hl with | [_, _, _], _ => rfl
  have bBcl : Binds K fdBcl ["hand", "parts", "thing", "fact"] [] := FBcl.binds (ps := ["hand", "parts", "thing", "fact"]) fun _ _ _ _ _ _ us hl => match us, hl with | [_, _, _, _], _ => rfl
  have bBI : Binds K fdBI ["self", "part"] [] := FBI.binds (ps := ["self", "part"]) fun _ _ _ _ _ _ us hl => match us, hl with | [_, _], _ => rfl
  have bRI : Binds K fdRI ["self", "clauses", "grounds"] [] := FRI.binds (ps := ["self", "clauses", "grounds"]) fun _ _ _ _ _ _ us hl => match us, hl with | [_, _, _], _ => rfl
  have bDI : Binds K fdDI ["self", "rule"] [] := FDI.binds (ps := ["self", "rule"]) fun _ _ _ _ _ _ us hl => match us, hl with | [_, _], _ => rfl
  have bDD : Binds K fdDD ["self", "lot"] [] := FDD.binds (ps := ["self", "lot"]) fun _ _ _ _ _ _ us hl => match us, hl with | [_, _], _ => rfl
  have cB1 : Cal P w K mg base 1 "is_below" ["bound", "thing"] spBelow := calAt X G c FBel (ok_below (k := 0) FBel T) bBel
  have cW1 : Cal P w K mg base 1 "is_word" ["thing"] spWord := calAt X G c FWor (ok_word (k := 0) FWor T) bWor
  have cB2 : Cal P w K mg base 2 "is_below" ["bound", "thing"] spBelow := calAt X G c FBel (ok_below (k := 1) FBel T) bBel
  have cW2 : Cal P w K mg base 2 "is_word" ["thing"] spWord := calAt X G c FWor (ok_word (k := 1) FWor T) bWor
  have cF2 : Cal P w K mg base 2 "is_fact" ["thing"] spFact := calAt X G c FFac (ok_fact (k := 0) FFac T cB1 cW1) bFac
  have cF3 : Cal P w K mg base 3 "is_fact" ["thing"] spFact := calAt X G c FFac (ok_fact (k := 1) FFac T cB2 cW2) bFac
  have cT2 : Cal P w K mg base 2 "is_tuple_of" ["most", "thing"] spTupOf := calAt X G c FTup (ok_tupOf (k := 1) FTup T) bTup
  have cT3 : Cal P w K mg base 3 "is_tuple_of" ["most", "thing"] spTupOf := calAt X G c FTup (ok_tupOf (k := 2) FTup T) bTup
  have cT4 : Cal P w K mg base 4 "is_tuple_of" ["most", "thing"] spTupOf := calAt X G c FTup (ok_tupOf (k := 3) FTup T) bTup
  have cS3 : Cal P w K mg base 3 "is_facts" ["most", "thing"] spFacts := calAt X G c FFcs (ok_facts (k := 0) FFcs T cT2 cF2) bFcs
  have cS4 : Cal P w K mg base 4 "is_facts" ["most", "thing"] spFacts := calAt X G c FFcs (ok_facts (k := 1) FFcs T cT3 cF3) bFcs
  have cC4 : Cal P w K mg base 4 "is_clause" ["thing"] spClause := calAt X G c FCla (ok_clause (k := 0) FCla T cT3 cF3 cS3) bCla
  have N : BadC P w K mg base (ga K "BadRule") := ⟨m.x, m.no, _, fdBI, m.i, m.t, ok_bad FBI m.x.o m.no, bBI, gloM X G c, ga K "PostError", gloM X G c, freeM X G c, m.kP, m.kV, m.te⟩
  have R : MkRu P w K mg base 5 (ga K "Rule") (ga K "BadRule") := ⟨_, fdRI, mkr_ok (restM c 8), ok_rule (k := 0) FRI T rc N cT4 cC4 cS4, gloM X G c, bRI⟩
  have cAs1 : Cal P w K mg base 1 "ascends" ["things"] spAsc := calAt X G c FAsc (ok_asc (k := 0) FAsc T) bAsc
  have cAs3 : Cal P w K mg base 3 "ascends" ["things"] spAsc := calAt X G c FAsc (ok_asc (k := 2) FAsc T) bAsc
  have cLo2 : Cal P w K mg base 2 "check_lot" ["rule", "lot"] (spLot (ga K "Rule")) := calAt X G c FClt (ok_lot (k := 0) FClt T rc cB1 cAs1) bClt
  have cCa3 : Cal P w K mg base 3 "check_asked" ["rule", "lot", "fact"] (spAsked (ga K "Rule")) := calAt X G c FCas (ok_asked (k := 0) FCas T cLo2 cF2) bCas
  have mkD : Mak P w K mg base 1 (ga K "Deriver") "Deriver" ["self", "rule"] (spDer (ga K "Rule") (ga K "Deriver")) := ⟨_, fdDI, mkr_ok (restM c 10), ok_der (k := 0) FDI T rc dc, gloM X G c, bDI⟩
  have meD : Met P w K mg base 1 (ga K "Deriver") "derived" ["self", "lot"] (spDerived (ga K "Rule") (ga K "Deriver")) := ⟨_, fdDD, dc.cls, meth_ok (restM c 11), ok_derived (k := 0) FDD T rc dc, bDD⟩
  have cHe4 : Cal P w K mg base 4 "held" ["rule", "lot"] (spHeld (ga K "Rule")) := calAt X G c FHel (ok_held (k := 0) FHel T rc dc cLo2 mkD meD) bHel
  have cRe4 : Cal P w K mg base 4 "reasons" ["rule", "lot", "fact"] (spReas (ga K "Rule")) := calAt X G c FRea (ok_reasons (k := 0) FRea T rc dc cCa3 mkD meD) bRea
  have cCl5 : Cal P w K mg base 5 "closed" ["rule", "lot", "fact"] (spClo (ga K "Rule")) := calAt X G c FClo (ok_closed (k := 0) FClo T cCa3 cHe4) bClo
  have cSr3 : Cal P w K mg base 3 "is_reason" ["rule", "grounds", "ahead", "fact", "thing"] (spIsr (ga K "Rule")) := calAt X G c FIsr (ok_isr (k := 1) FIsr T rc cB2) bIsr
  have cIr4 : Cal P w K mg base 4 "is_reasons" ["rule", "lot", "fact", "thing"] (spIrs (ga K "Rule")) := calAt X G c FIrs (ok_irs (k := 0) FIrs T rc cCa3 cF3 cSr3) bIrs
  have cIc4 : Cal P w K mg base 4 "is_closed" ["rule", "lot", "fact", "thing"] (spIcl (ga K "Rule")) := calAt X G c FIcl (ok_icl (k := 0) FIcl T rc cCa3 cF3 cAs3) bIcl
  have cD1 : Cal P w K mg base 1 "_law_draw" ["hand", "many"] spDraw := calAt X G c FDra (ok_draw (k := 0) FDra T) bDra
  have cD2 : Cal P w K mg base 2 "_law_draw" ["hand", "many"] spDraw := calAt X G c FDra (ok_draw (k := 1) FDra T) bDra
  have cD3 : Cal P w K mg base 3 "_law_draw" ["hand", "many"] spDraw := calAt X G c FDra (ok_draw (k := 2) FDra T) bDra
  have cD4 : Cal P w K mg base 4 "_law_draw" ["hand", "many"] spDraw := calAt X G c FDra (ok_draw (k := 3) FDra T) bDra
  have cA2 : Cal P w K mg base 2 "_law_any" ["hand", "items"] spAny := calAt X G c FAny (ok_any (k := 0) FAny T cD1) bAny
  have cA3 : Cal P w K mg base 3 "_law_any" ["hand", "items"] spAny := calAt X G c FAny (ok_any (k := 1) FAny T cD2) bAny
  have cA4 : Cal P w K mg base 4 "_law_any" ["hand", "items"] spAny := calAt X G c FAny (ok_any (k := 2) FAny T cD3) bAny
  have cNe4 : Cal P w K mg base 4 "_law_nested" ["hand"] spNest := calAt X G c FNes (ok_nest (k := 1) FNes T cA3) bNes
  have cH1 : Cal P w K mg base 1 "_law_hand" ["script"] (spHand K) := calAt X G c FHan (ok_hand (k := 0) FHan T) bHan
  have cLf3 : Cal P w K mg base 3 "_law_fact" ["hand"] spLfact := calAt X G c FLfa (ok_lfact (k := 0) FLfa T cD2 cA2) bLfa
  have cP4 : Cal P w K mg base 4 "_law_pool" ["hand", "many"] spPool := calAt X G c FPoo (ok_pool (k := 0) FPoo T cLf3) bPoo
  have cPa5 : Cal P w K mg base 5 "_law_parts" ["hand", "most", "grounds"] spParts := calAt X G c FPar (ok_parts (k := 0) FPar T cD4 cA4 cP4) bPar
  have cM7 : Cal P w K mg base 7 "_law_made" ["parts"] (spMade (ga K "Rule")) := calAt X G c FMad (ok_madeR (k := 0) FMad T R) bMad
  have cG1 : Cal P w K mg base 1 "_law_ground_facts" ["parts", "lot"] spGf := calAt X G c FGfa (ok_gf (k := 0) FGfa T) bGfa
  have cG3 : Cal P w K mg base 3 "_law_ground_facts" ["parts", "lot"] spGf := calAt X G c FGfa (ok_gf (k := 2) FGfa T) bGfa
  have cGT2 : Cal P w K mg base 2 "_law_ground_facts" ["parts", "lot"] spGfT := calAt X G c FGfa (ok_gfT (k := 1) FGfa T) bGfa
  have cAk4 : Cal P w K mg base 4 "_law_asked" ["hand", "parts"] spAskd := calAt X G c FAsk (ok_askd (k := 0) FAsk T cG1 cD1 cLf3 cA2) bAsk
  have cFs2 : Cal P w K mg base 2 "_law_facts" ["parts"] spFacs := calAt X G c FFas (ok_facs (k := 0) FFas T cG1) bFas
  have cFs4 : Cal P w K mg base 4 "_law_facts" ["parts"] spFacs := calAt X G c FFas (ok_facs (k := 2) FFas T cG3) bFas
  have cMx2 : Cal P w K mg base 2 "_law_mixed" ["hand", "items"] spMixL := calAt X G c FMix (ok_mixL (k := 0) FMix T cD1) bMix
  have cL2 : Cal P w K mg base 2 "_law_lot" ["hand", "many"] spLlot := calAt X G c FLlo (ok_llot (k := 0) FLlo T cD1) bLlo
  have cR1 : Cal P w K mg base 1 "_law_rounds" ["parts", "lot", "without"] spRnd := calAt X G c FRnd (ok_rnd (k := 0) FRnd T) bRnd
  have cI0 : Cal P w K mg base 1 "_law_is" ["given", "due"] (spIsN 0) := calAt X G c FIs (ok_isN0 (k := 0) FIs T) bIs
  have cI1 : Cal P w K mg base 2 "_law_is" ["given", "due"] (spIsN 1) := calAt X G c FIs (ok_isS (k := 0) FIs T cI0) bIs
  have cI2 : Cal P w K mg base 3 "_law_is" ["given", "due"] (spIsN 2) := calAt X G c FIs (ok_isS (k := 1) FIs T cI1) bIs
  have cI3 : Cal P w K mg base 4 "_law_is" ["given", "due"] (spIsN 3) := calAt X G c FIs (ok_isS (k := 2) FIs T cI2) bIs
  have cI4 : Cal P w K mg base 5 "_law_is" ["given", "due"] (spIsN 4) := calAt X G c FIs (ok_isS (k := 3) FIs T cI3) bIs
  have cNu1 : Cal P w K mg base 1 "_law_is_number" ["thing", "many"] spNum := calAt X G c FNum (ok_num (k := 0) FNum T) bNum
  have cLi2 : Cal P w K mg base 2 "_law_is_fact" ["thing"] spFact := calAt X G c FLif (ok_lif (k := 0) FLif T cNu1) bLif
  have cFr2 : Cal P w K mg base 2 "_law_is_from" ["parts", "lot", "one", "told", "known"] spLfr := calAt X G c FLfr (ok_lfr (k := 0) FLfr T cNu1) bLfr
  have cLr3 : Cal P w K mg base 3 "_law_are_reasons" ["parts", "lot", "fact", "thing"] spLar := calAt X G c FLar (ok_lar (k := 0) FLar T cLi2 cFr2) bLar
  have cLc3 : Cal P w K mg base 3 "_law_is_closed" ["parts", "lot", "fact", "thing"] spLic := calAt X G c FLic (ok_lic (k := 0) FLic T cLi2 cGT2) bLic
  have cBr5 : Cal P w K mg base 5 "_law_bent_reasons" ["hand", "parts", "thing"] spBr := calAt X G c FBre (ok_bentR (k := 0) FBre T cD4 cA4 cAk4 cNe4) bBre
  have cBc5 : Cal P w K mg base 5 "_law_bent_closed" ["hand", "parts", "thing", "fact"] spBc := calAt X G c FBcl (ok_bentC (k := 0) FBcl T cD4 cA4 cAk4 cNe4 cFs4) bBcl
  exact ok_law (k := 0) FLaw T cH1 cD1 cPa5 cM7 cL2 cAk4 cR1 cRe4 cCl5 cI4 cI0 cLr3 cLc3 cIr4 cIc4 cBr5 cBc5 cMx2 cFs2
end
end L2.My
end
set_option Elab.async false
set_option linter.all false
set_option maxRecDepth 100000
set_option maxHeartbeats 0
open PySem PySem.W PySem.Calls PyProof.Rows
theorem PySem.Challenge.cw_strangerspost_k52_whole_reasons_and_clos_holds : PySem.Challenge.rw_strangerspost_k52_whole_reasons_and_clos.Holds := by
  w_on; o_law
  refine HandSHeadRun.head_any (r := OpenLaw.row PySem.Challenge.rw_strangerspost_k52_whole_reasons_and_clos) (q := view (OpenLaw.row PySem.Challenge.rw_strangerspost_k52_whole_reasons_and_clos).prog [55]) (H := L2.My.hkK) (ob := L2.My.obK) (M := 12000) (loose := L2.My.looA ++ L2.My.looB) (d := HandSHeadRun.topDef (OpenLaw.row PySem.Challenge.rw_strangerspost_k52_whole_reasons_and_clos).prog 55) (kwd := []) L2.My.obK_eq
    (by kernel_rfl) (fun s => by kernel_rfl) L2.My.run (by kernel_rfl) (by kernel_rfl) (by kernel_rfl) (by rfl) (by first | assumption | decide +kernel) (by decide +kernel) ⟨rfl, rfl, rfl, rfl, rfl, by decide +kernel⟩ ?hw ?hc
  case hw => w_witness2
  case hc =>
    refine LamX.walk_ofTsE (l := PySem.Challenge.rw_strangerspost_k52_whole_reasons_and_clos) (n := 63) (k := 8) (x := "script") (CX := fun _ => L2.CX0) rfl (by decide) (by kernel_rfl) ⟨rfl, by decide, by decide⟩ ?F (fun _ _ _ _ _ z => z)
    intro w mg fa h Y G hmg0
    obtain ⟨K, KX, c⟩ := Y
    have hmg : mg ("law" : PySem.Str) = some (.ref fa) := by
      have e : (HandSHeadRun.topDef (OpenLaw.row PySem.Challenge.rw_strangerspost_k52_whole_reasons_and_clos).prog 55).name = ("law" : PySem.Str) := by kernel_rfl
      rw [← e]
      exact hmg0
    obtain ⟨fd, hb, hF⟩ := L2.My.facts (P := (PySem.Challenge.rw_strangerspost_k52_whole_reasons_and_clos).prog) (w := w) KX G hmg c
    refine ⟨K, KX, fd, [], L2.My.spLaw K, (fun p hp => absurd hp (by simp)), (fun p hp => absurd hp (by simp)), (fun p hp => absurd hp (by simp)), hb, fun H a ns hl _ hH hS => ⟨a, ns, rfl, hS, fun _ => rfl⟩, hF⟩

