/-
  Families: their rows written and shortened; leave.
-/
import Derived.Test.YtcgaekaollhmpaaGreatNc
namespace Go.Proofs.YtcgaekaollhmpaaGreat
open Go.RowKit Go.Maps

theorem Fam.row {w : World} {v : Value} {l : List Nat} (h : Fam w v l) (hl : l ≠ []) : ∃ g c, v = .slice (some ⟨g, 0, none⟩) l.length c := by
  rcases h.2 with ⟨rfl, h0⟩ | ⟨g, cap, cur, rfl, _⟩
  · exact absurd (List.eq_nil_of_length_eq_zero h0) hl
  · exact ⟨g, cap, rfl⟩
theorem Fam.cell {w : World} {g n c : Nat} {l : List Nat} (h : Fam w (.slice (some ⟨g, 0, none⟩) n c) l) {k b : Nat} (hk : l[k]? = some b) : w.cell? ⟨g, k, none⟩ = some (ptr b) ∧ w.frozen? ⟨g, k, none⟩ = false := by
  refine ⟨?_, ?_⟩
  · have := World.ownsRow.cells h (g := g) rfl k (ptr b) (by rw [List.getElem?_map, hk]; rfl)
    rw [Addr.add_lit, Nat.zero_add] at this
    exact this
  · rcases h.2 with ⟨e, _⟩ | ⟨g', cap, cur, e, hb, hgg, _⟩
    · cases e
    · cases e
      exact fz hgg k
theorem Fam.set {w : World} {g n c : Nat} {l : List Nat} (h : Fam w (.slice (some ⟨g, 0, none⟩) n c) l) (k b : Nat) : Fam (w.setCell ⟨g, k, none⟩ (ptr b)) (.slice (some ⟨g, 0, none⟩) n c) (l.set k b) := by
  refine ⟨by rw [List.length_map, Nat.mul_one], ?_⟩
  rcases h.2 with ⟨e, _⟩ | ⟨g', cap, cur, e, hb, hgg, h1, h2, h3, h4⟩
  · cases e
  · cases e
    refine .inr ⟨g, c, cur.setIfInBounds k (ptr b), by rw [List.length_set], hb, setB hgg _, by rw [List.length_set]; exact h1, h2, by rw [Array.size_setIfInBounds]; exact h3, ?_⟩
    rw [List.length_set, Array.toList_setIfInBounds, List.take_set, h4, List.map_set]
theorem Fam.drop {w : World} {g n c : Nat} {l : List Nat} (h : Fam w (.slice (some ⟨g, 0, none⟩) n c) l) (m : Nat) (hm : l.length = m + 1) : Fam (w.setCell ⟨g, m, none⟩ (.pointer none)) (.slice (some ⟨g, 0, none⟩) m c) l.dropLast := by
  have hl : l.dropLast.length = m := by rw [List.length_dropLast]; omega
  refine ⟨by rw [List.length_map, Nat.mul_one], ?_⟩
  rcases h.2 with ⟨e, _⟩ | ⟨g', cap, cur, e, hb, hgg, h1, h2, h3, h4⟩
  · cases e
  · cases e
    refine .inr ⟨g, c, cur.setIfInBounds m (.pointer none), by rw [hl], hb, setB hgg _, by omega, h2, by rw [Array.size_setIfInBounds]; exact h3, ?_⟩
    rw [Nat.mul_one] at h4 ⊢
    rw [hl, Array.toList_setIfInBounds, List.take_set_of_le (Nat.le_refl _), List.dropLast_eq_take, List.map_take, ← h4, List.take_take]
    congr 1
    omega
theorem elem66 : Tryz.prog.underlying 94 = some (.slice (Tryz.prog.elem 94)) := by kernel_rfl
theorem size66 : ∀ w, (sizeOf (Tryz.prog.elem 94)).run Tryz.prog w = .ok 1 w := fun w => by kernel_rfl
theorem slice_h (g n c m : Nat) (h : m ≤ c) (hc : 0 < c) : ∀ w, (Instr.sliceAt 94 (.slice (some ⟨g, 0, none⟩) n c) none (some (.int .i64 m)) none).run Tryz.prog w = .ok (.slice (some ⟨g, 0, none⟩) m c) w := fun w => by
  rw [run_sliceAt_slice (h := elem66), run_slice_h (ht := elem66) (h0 := by omega) (h2 := by omega), size66]
  simp only [Result.andThen, Int.toNat_natCast]
  unfold sliced
  rw [if_neg (by omega)]
  rfl
end Go.Proofs.YtcgaekaollhmpaaGreat
