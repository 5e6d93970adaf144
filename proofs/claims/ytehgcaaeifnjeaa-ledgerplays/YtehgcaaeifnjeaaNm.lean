/-
  The names of a map of pointers, in their order.
-/
import Derived.Test.YtehgcaaeifnjeaaIter
import Derived.Test.YtehgcaaeifnjeaaRn
namespace Go.Proofs.Ytehgcaaeifnjeaa
open Go.RowKit Go.Maps Go.WideMaps Go.Sort

theorem bb_lt : ∀ {a b : List UInt8}, bytesBefore a b = true → a < b
  | [], [], h => by simp [bytesBefore] at h
  | [], _ :: _, _ => List.nil_lt_cons _ _
  | _ :: _, [], h => by simp [bytesBefore] at h
  | x :: r, y :: s, h => by
    simp only [bytesBefore, Bool.or_eq_true, decide_eq_true_eq, Bool.and_eq_true, beq_iff_eq] at h
    rw [List.cons_lt_cons_iff]
    rcases h with h | ⟨h1, h2⟩
    · exact .inl h
    · exact .inr ⟨h1, bb_lt h2⟩
theorem names_sorted {l ss : List (List UInt8)} (hs : l.Pairwise fun x y => bytesBefore x y = true) (hp : ss.Perm l) : ss.mergeSort (fun x y => decide (x ≤ y)) = l := by
  have tr : ∀ a b c : List UInt8, leB a b = true → leB b c = true → leB a c = true := fun a b c h1 h2 => by simp only [leB, decide_eq_true_eq] at *; exact List.le_trans h1 h2
  have tot : ∀ a b : List UInt8, (leB a b || leB b a) = true := fun a b => by simp only [leB, Bool.or_eq_true, decide_eq_true_eq]; exact List.le_total a b
  refine List.Perm.eq_of_pairwise (le := fun a b => leB a b = true) (fun a b _ _ h1 h2 => ?_) (List.pairwise_mergeSort tr tot ss) ?_ ((List.mergeSort_perm ss leB).trans hp)
  · simp only [leB, decide_eq_true_eq] at h1 h2
    exact List.le_antisymm h1 h2
  · refine List.Pairwise.imp (fun {a b} hab => ?_) hs
    simp only [leB, decide_eq_true_eq]
    exact List.le_of_lt (bb_lt hab)
set_option maxHeartbeats 1000000 in
theorem names_raw (b nn : Nat) (D0 : DataW Nat) (w : World) (pb : Nat) (hc : w.heap[pb]? = some (.cells #[.map (some b)] 61 (0, 0))) (hown : w.ownsMap Try.prog 9 pE b nn D0) (hmax : Maps.size D0 ≤ maxLen) (hbytes : Maps.size D0 * 16 ≤ 140737488355328) :
    Calls Try.prog 17 #[.pointer (some ⟨pb, 0, none⟩)] w fun e w' => ∃ (v : Value) (ss : List (List UInt8)), e = .returned v ∧ ss.Perm (strKeys D0) ∧
      w'.ownsRow w.heap.size 9 1 v ss.length ((ss.mergeSort (fun x y => decide (x ≤ y))).map encStr) ∧ Below w.heap.size w w' := by
  have e0 := cell_of (i := 0) hc
  simp only [List.getElem?_toArray, List.getElem?_cons_zero] at e0
  refine (callsIn_wide (n := 6)).1 ?_
  have hfK : Fence.wide.fn 34 := trivial
  have hfS : Fence.wide.fn 33 := trivial
  refine callsIn_of_wp Try.func17 rfl trivial ?_ rfl
  simp only [Try.ntmps17, List.size_toArray, List.length_cons, List.length_nil, Nat.reduceAdd, Nat.reduceSub, Array.replicate_succ, Array.replicate_zero, List.push_toArray, List.append_toArray, List.nil_append, List.cons_append]
  gi_wp2_with (first
    | (gi_at_call 34; refine (Try.maps_Keys_54 _ _).mono ?_; rintro e w' ⟨rfl, rfl⟩)
    | (gi_at_call 33; refine (Try.slices_Sorted_keys_53_54 b nn D0 pE w hown hmax hbytes).mono ?_; rintro e w' ⟨v, ss, rfl, hS, hrow, hnil, hb⟩))
  go_ret
  exact ⟨v, ss, rfl, hS, ownsRow_base_a hrow (by simp), ((Below.refl _ w).alloc (Nat.le_refl _) _).trans (hb.mono (by simp))⟩
set_option maxHeartbeats 1000000 in
theorem names_none (w : World) (pb : Nat) (hc : w.heap[pb]? = some (.cells #[.map none] 61 (0, 0))) :
    Calls Try.prog 17 #[.pointer (some ⟨pb, 0, none⟩)] w fun e w' => e = .returned (.slice none 0 0) ∧ Below w.heap.size w w' := by
  have e0 := cell_of (i := 0) hc
  simp only [List.getElem?_toArray, List.getElem?_cons_zero] at e0
  refine (callsIn_wide (n := 6)).1 ?_
  have hfK : Fence.wide.fn 34 := trivial
  have hfS : Fence.wide.fn 33 := trivial
  refine callsIn_of_wp Try.func17 rfl trivial ?_ rfl
  simp only [Try.ntmps17, List.size_toArray, List.length_cons, List.length_nil, Nat.reduceAdd, Nat.reduceSub, Array.replicate_succ, Array.replicate_zero, List.push_toArray, List.append_toArray, List.nil_append, List.cons_append]
  gi_wp2_with (first
    | (gi_at_call 34; refine (Try.maps_Keys_54 _ _).mono ?_; rintro e w' ⟨rfl, rfl⟩)
    | (gi_at_call 33; refine (Try.slices_Sorted_keys_nil_53_54 w).mono ?_; rintro e w' ⟨v, ss, rfl, hS, hrow, hnil, hb⟩))
  go_ret
  exact ⟨by rw [hnil.2 hS]; rfl, ((Below.refl _ w).alloc (Nat.le_refl _) _).trans (hb.mono (by simp))⟩
theorem pnames_any {w : World} {S : Nat → Prop} {pb : Nat} {D : List A} (h : Led w S pb D) :
    Calls Try.prog 17 #[.pointer (some ⟨pb, 0, none⟩)] w fun e w' => ∃ p c', e = .returned (.slice p D.length c') ∧ Hid (SR w.heap.size w' (.slice p D.length c') (D.map A.nm) ∧ Below w.heap.size w w') := by
  obtain ⟨⟨mb, l, h1, rfl, -⟩, -⟩ := h
  have hm := h1.mp
  unfold MpAt at hm
  cases mb with
  | none =>
    subst hm
    refine (names_none w pb h1.cell).mono ?_
    rintro e w' ⟨rfl, hb⟩
    exact ⟨none, 0, rfl, World.ownsRow_nil _ _ _ _, hb⟩
  | some m =>
    have hl := h1.len
    refine (names_raw m l.length (mapOf l) w pb h1.cell hm (by rw [mapOf_size]; unfold maxLen; omega) (by rw [mapOf_size]; omega)).mono ?_
    rintro e w' ⟨v, ss, rfl, hS, hrow, hb⟩
    have hk : strKeys (mapOf l) = l.map Ac.nm := by
      unfold mapOf strKeys
      simp only [List.map_map]
      rfl
    rw [hk] at hS
    rw [names_sorted (List.pairwise_map.2 h1.srt) hS, show ss.length = l.length by rw [hS.length_eq, List.length_map]] at hrow
    obtain ⟨p, c', rfl⟩ : ∃ p c', v = .slice p l.length c' := by
      rcases hrow.2 with ⟨rfl, hx⟩ | ⟨g, cap, cur, rfl, _⟩
      · exact ⟨none, 0, by simp at hx; simp [hx]⟩
      · exact ⟨_, _, rfl⟩
    rw [List.length_map]
    refine ⟨p, c', rfl, ?_, hb⟩
    rw [List.map_map, show A.nm ∘ Ac.s = Ac.nm from rfl]
    unfold SR GRow
    have e : ∀ L : List (List UInt8), L.flatMap sC = L.map encStr := fun L => by
      induction L with
      | nil => rfl
      | cons a r ih => rw [List.flatMap_cons, List.map_cons, ih]; rfl
    rw [e, List.length_map]
    exact hrow
end Go.Proofs.Ytehgcaaeifnjeaa
