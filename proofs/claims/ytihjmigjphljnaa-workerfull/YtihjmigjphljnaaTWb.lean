/-
  Less.
-/
import Derived.Test.YtihjmigjphljnaaTWa
namespace Go.Proofs.Ytihjmigjphljnaa.Tk
open Go.RowKit Go.Maps Go.WideMaps

set_option maxHeartbeats 1000000 in
theorem less_raw (w : World) (cb g n c i j : Nat) (x y : Al) (c0 : w.cell? ⟨cb, 1, none⟩ = some (.slice (some ⟨g, 0, none⟩) n c)) (hi : i < n) (hj : j < n)
    (x0 : w.cell? ⟨g, i * 2, none⟩ = some (.string x.nm)) (x1 : w.cell? ⟨g, i * 2 + 1, none⟩ = some (.int .i64 x.at')) (y0 : w.cell? ⟨g, j * 2, none⟩ = some (.string y.nm)) (y1 : w.cell? ⟨g, j * 2 + 1, none⟩ = some (.int .i64 y.at')) :
    Calls Try.prog 93 #[.agg #[.pointer (some ⟨cb, 1, none⟩)], .int .i64 i, .int .i64 j] w fun e w' => e = .returned (.bool (ltB x y)) ∧ Below w.heap.size w w' := by
  have hi' : (i : Int) < (n : Int) := by omega
  have hj' : (j : Int) < (n : Int) := by omega
  obtain ⟨xn, xa⟩ := x
  obtain ⟨yn, ya⟩ := y
  simp only at x0 x1 y0 y1
  have Hb : Hid (Below w.heap.size w (w.alloc (.cells #[.pointer (some ⟨cb, 1, none⟩)] 100 (0, 0)))) := (Below.refl _ w).alloc (Nat.le_refl _) _
  have Hn : Hid ((w.alloc (.cells #[.pointer (some ⟨cb, 1, none⟩)] 100 (0, 0))).heap[w.heap.size]? = some (.cells #[.pointer (some ⟨cb, 1, none⟩)] 100 (0, 0))) := new0
  go_enter Try.func93, Try.ntmps93
  go_upto_region 1 with fail
  have k0 : ∀ (p : Addr) v, w.cell? p = some v → (w.alloc (.cells #[.pointer (some ⟨cb, 1, none⟩)] 100 (0, 0))).cell? p = some v := fun p v h => cell_below h Hb.out
  replace c0 := k0 _ _ c0
  replace x0 := k0 _ _ x0
  replace x1 := k0 _ _ x1
  replace y0 := k0 _ _ y0
  replace y1 := k0 _ _ y1
  have b0 : (w.alloc (.cells #[.pointer (some ⟨cb, 1, none⟩)] 100 (0, 0))).cell? ⟨w.heap.size, 0, none⟩ = some (.pointer (some ⟨cb, 1, none⟩)) := by rw [cell_of Hn.out]; rfl
  have l0 := cell_lt c0
  have l1 := cell_lt x0
  have l2 := cell_lt b0
  simp only at l0 l1 l2
  clear k0 Hn
  generalize w.alloc (.cells #[.pointer (some ⟨cb, 1, none⟩)] 100 (0, 0)) = w1 at *
  go_region
  all_goals
    by_cases h : xa = ya
    · subst h
      go_wp2_with fail
      go_ret
      refine ⟨ret_b ?_, ?_⟩
      · unfold ltB
        rw [less_eq, Lib.toList_data, Lib.toList_data]
        simp
      · go_grown
        exact Hb.out
    · go_wp2_with fail
      go_ret
      refine ⟨ret_b ?_, ?_⟩
      · unfold ltB
        simp [h]
      · go_grown
        exact Hb.out
end Go.Proofs.Ytihjmigjphljnaa.Tk
