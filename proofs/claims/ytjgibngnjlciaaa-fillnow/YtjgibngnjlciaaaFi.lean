/-
  Ticks sorted, each once.
-/
import Derived.Test.YtjgibngnjlciaaaFh
import Derived.Test.YtjgibngnjlciaaaShelfJ
import Derived.Sort.OwnSortedInts
import Derived.Lib.OwnBridge
namespace Go.Proofs.Ytjgibngnjlciaaa
open Go.RowKit Go.Maps Go.WideMaps Go.Sort Go.Lib

/-- an owned row of ticks -/
abbrev TR (B : Nat) (w : World) (v : Value) (L : List Int) : Prop := w.ownsRow B 2 1 v L.length (L.map (Value.int .i64))
/-! ### compact -/
theorem comp_all (L : List Int) (hs : ∀ i j, i ≤ j → j < L.length → L.toArray[i]! ≤ L.toArray[j]!) : ∀ m, m ≤ L.length → (∀ x, x ∈ compactUpTo L.toArray m ↔ ∃ j, j < m ∧ L.toArray[j]! = x) ∧ (compactUpTo L.toArray m).Pairwise (· < ·)
  | 0, _ => ⟨fun x => ⟨fun h => by simp [compactUpTo] at h, fun ⟨j, hj, _⟩ => absurd hj (by omega)⟩, by simp [compactUpTo]⟩
  | m + 1, hm => by
    obtain ⟨h1, h2⟩ := comp_all L hs m (by omega)
    rw [compactUpTo_succ]
    by_cases hk : keeps L.toArray m = true
    · rw [if_pos hk]
      refine ⟨fun x => ?_, List.pairwise_append.2 ⟨h2, List.pairwise_singleton _ _, fun a ha b hb => ?_⟩⟩
      · rw [List.mem_append, h1, List.mem_singleton]
        constructor
        · rintro (⟨j, hj, e⟩ | rfl)
          · exact ⟨j, by omega, e⟩
          · exact ⟨m, by omega, rfl⟩
        · rintro ⟨j, hj, e⟩
          by_cases q : j = m
          · subst q; exact .inr e.symm
          · exact .inl ⟨j, by omega, e⟩
      · rw [List.mem_singleton.1 hb]
        obtain ⟨j, hj, rfl⟩ := (h1 a).1 ha
        unfold keeps at hk
        have hk' := of_decide_eq_true hk
        have h3 := hs j (m - 1) (by omega) (by omega)
        have h4 := hs (m - 1) m (by omega) (by omega)
        rcases hk' with q | q
        · omega
        · have q' : L.toArray[m - 1]! ≠ L.toArray[m]! := fun e => q e.symm
          omega
    · rw [if_neg hk, List.append_nil]
      refine ⟨fun x => ?_, h2⟩
      rw [h1]
      constructor
      · rintro ⟨j, hj, e⟩; exact ⟨j, by omega, e⟩
      · rintro ⟨j, hj, e⟩
        by_cases q : j = m
        · subst q
          unfold keeps at hk
          have hk' : ¬ (j = 0 ∨ L.toArray[j]! ≠ L.toArray[j - 1]!) := fun q => hk (decide_eq_true q)
          have h5 : j ≠ 0 := fun e => hk' (.inl e)
          have h6 : L.toArray[j]! = L.toArray[j - 1]! := Decidable.byContradiction fun e => hk' (.inr e)
          exact ⟨j - 1, by omega, by rw [← h6]; exact e⟩
        · exact ⟨j, by omega, e⟩
theorem getB (L : List Int) {i : Nat} (h : i < L.length) : L.toArray[i]! = L[i] := by simp [h]
theorem comp_any {L : List Int} (h : L.Pairwise (· ≤ ·)) : (∀ x, x ∈ compact L ↔ x ∈ L) ∧ (compact L).Pairwise (· < ·) := by
  obtain ⟨h1, h2⟩ := comp_all L (fun i j hij hj => by
    rw [getB L (by omega), getB L hj]
    by_cases e : i = j
    · subst e; exact Int.le_refl _
    · exact List.pairwise_iff_getElem.1 h i j (by omega) hj (by omega)) L.length (Nat.le_refl _)
  refine ⟨fun x => ?_, h2⟩
  show x ∈ compactUpTo L.toArray L.length ↔ _
  rw [h1]
  constructor
  · rintro ⟨j, hj, rfl⟩
    rw [getB L hj]
    exact List.getElem_mem hj
  · intro hx
    obtain ⟨j, hj, e⟩ := List.mem_iff_getElem.1 hx
    exact ⟨j, hj, by rw [getB L hj]; exact e⟩
/-! ### the calls -/
theorem tr_blk {B : Nat} {w : World} {p : Option Addr} {n c : Nat} {L : List Int} (h : TR B w (.slice p n c) L) (hL : L ≠ []) : ∃ g cur, p = some ⟨g, 0, none⟩ ∧ n = L.length ∧ B ≤ g ∧ w.heap[g]? = some (.cells cur 2 (0, 0)) ∧ L.length ≤ c ∧ c ≤ maxLen ∧ cur.size = c * 1 ∧ cur.toList.take L.length = L.map (Value.int .i64) := by
  rcases h.2 with ⟨_, h0⟩ | ⟨g, cap, cur, e, h1, h2, h3, h4, h5, h6⟩
  · exact absurd (List.eq_nil_of_length_eq_zero h0) hL
  · cases e
    rw [Nat.mul_one] at h6
    exact ⟨g, cur, rfl, rfl, h1, h2, h3, h4, h5, h6⟩
theorem sortT_any {B : Nat} {w : World} {p : Option Addr} {n c : Nat} {L : List Int} (h : TR B w (.slice p n c) L) (hL : L ≠ []) (hn : L.length ≤ 100000000) :
    Calls Try.prog 40 #[.slice p n c] w fun e w' => e = .returned (.tuple #[]) ∧ Hid (∃ M : List Int, M.Perm L ∧ M.Pairwise (· ≤ ·) ∧ TR B w' (.slice p n c) M ∧ w.grownBy w' (Value.slice p n c).ownBlock) := by
  obtain ⟨g, cur, rfl, rfl, h1, h2, h3, h4, h5, h6⟩ := tr_blk h hL
  have hH := holds_of_blockI h2 h6
  refine (AnyM.slices_Sort_int Try.sort40 g 0 c L w hH (Array.getElem?_eq_some_iff.1 h2).1 (by omega)).mono ?_
  rintro e w' ⟨rfl, nn, os, rfl⟩
  have hp := List.mergeSort_perm L fun x y => decide (x ≤ y)
  refine ⟨rfl, L.mergeSort fun x y => decide (x ≤ y), hp, ?_, ?_, grownBy_sortedI _⟩
  · refine List.Pairwise.imp (fun {a b} hab => of_decide_eq_true hab) (List.pairwise_mergeSort (fun a b c h1 h2 => ?_) (fun a b => ?_) L)
    · simp only [decide_eq_true_eq] at *; omega
    · simp only [Bool.or_eq_true, decide_eq_true_eq]; omega
  · have h7 := ownsRow_sortedI (n := nn) (os := os) (ss := L) (ts := L.mergeSort fun x y => decide (x ≤ y)) (by simp) h1 h2 h3 h4 h5
    show World.ownsRow _ _ _ _ _ _ _
    rw [List.length_mergeSort]
    exact h7
theorem compactT_any {B : Nat} {w : World} {p : Option Addr} {n c : Nat} {L : List Int} (h : TR B w (.slice p n c) L) (hL : L ≠ []) (hs : L.Pairwise (· ≤ ·)) (hn : L.length ≤ 100000000) :
    Calls Try.prog 41 #[.slice p n c] w fun e w' => ∃ k, e = .returned (.slice p k c) ∧ Hid (∃ T : List Int, T.length = k ∧ T.Pairwise (· < ·) ∧ (∀ x, x ∈ T ↔ x ∈ L) ∧ TR B w' (.slice p k c) T ∧ Below B w w') := by
  obtain ⟨g, cur, rfl, rfl, h1, h2, h3, h4, h5, h6⟩ := tr_blk h hL
  have hH := holds_of_blockI h2 h6
  obtain ⟨c1, c2⟩ := comp_any hs
  have hle := Lib.compact_length_le L
  refine (AnyG.slices_Compact_int Try.compact41 g 0 c L w hH (by omega) h3).mono ?_
  rintro e w' ⟨rfl, q, rfl⟩
  refine ⟨_, rfl, compact L, rfl, c2, c1, ?_, below_putRow (Below.refl _ _) h1⟩
  have := ownsRow_putRow (q := q) (k := (compact L).length) (ys := compact L ++ List.replicate (L.length - (compact L).length) 0) h (by simp; omega) hle
  rw [List.take_left'] at this
  · exact this
  · rfl
end Go.Proofs.Ytjgibngnjlciaaa
