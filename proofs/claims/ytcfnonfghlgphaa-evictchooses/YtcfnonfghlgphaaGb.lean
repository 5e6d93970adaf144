/-
  The line of victims: its foremost heap, the next one.
-/
import Derived.Test.YtcfnonfghlgphaaGa
import Derived.Test.YtcfnonfghlgphaaEb
namespace Go.Proofs.Ytcfnonfghlgphaa
open Go.RowKit Go.Maps

set_option maxHeartbeats 1000000 in
set_option maxRecDepth 100000 in
theorem fore_0 (w : World) (lb : Nat) (c0 : w.cell? ⟨lb, 0, none⟩ = some (.slice none 0 0)) : Calls Try.prog 41 #[.pointer (some ⟨lb, 0, none⟩)] w fun e w' => e = .returned (.pointer none) ∧ Below w.heap.size w w' := by
  have hl := cell_lt c0
  simp only at hl
  go_enter Try.func41, Try.ntmps41
  go_wp2_with fail
  refine wp_loop_rounds 1 ?_
  rw [rounds_succ]
  go_wp2_with fail
  go_ret
  exact ⟨rfl, by go_grown⟩
set_option maxHeartbeats 1000000 in
set_option maxRecDepth 100000 in
theorem fore_none (w : World) (lb g hb : Nat) (c : Nat) (c0 : w.cell? ⟨lb, 0, none⟩ = some (.slice (some ⟨g, 0, none⟩) 1 c)) (c1 : w.cell? ⟨g, 0, none⟩ = some (.pointer (some ⟨hb, 0, none⟩)))
    (H62 : Hid (∀ w1, Below w.heap.size w w1 → Calls Try.prog 62 #[.pointer (some ⟨hb, 0, none⟩)] w1 fun e w' => e = .returned (.tuple #[.int .i64 0, .agg #[.int .i64 0, .int .i64 0, .int .i64 0], .int .i64 3]) ∧ Below w1.heap.size w1 w')) :
    Calls Try.prog 41 #[.pointer (some ⟨lb, 0, none⟩)] w fun e w' => e = .returned (.pointer none) ∧ Below w.heap.size w w' := by
  have hl := cell_lt c0
  have hg := cell_lt c1
  simp only at hl hg
  go_enter Try.func41, Try.ntmps41
  go_upto_region 3 with fail
  have B1 : Hid (Below w.heap.size w (w.alloc (.cells #[.int .i64 0, .int .i64 0, .int .i64 0] 91))) := (Below.refl _ w).alloc (Nat.le_refl _) _
  have c0 := cell_below c0 B1.out
  have c1 := cell_below c1 B1.out
  generalize w.alloc (.cells #[.int .i64 0, .int .i64 0, .int .i64 0] 91) = W at *
  have hW := B1.out.size
  go_wp2_with fail
  refine wp_loop_rounds 2 ?_
  rw [rounds_succ]
  go_wp2_with (go_at_call 62; refine (H62.out _ B1.out).mono ?_; rintro e w2 ⟨rfl, b2⟩)
  go_quiet (fail)
  go_wp2_with fail
  rw [rounds_succ]
  go_wp2_with fail
  go_ret
  exact ⟨rfl, below_drewN ((below_from B1.out b2 hW).alloc (Nat.le_trans hW b2.size) _) _⟩
set_option maxHeartbeats 1000000 in
set_option maxRecDepth 100000 in
theorem fore_some (w : World) (lb g hb : Nat) (c : Nat) (a b d : Int) (c0 : w.cell? ⟨lb, 0, none⟩ = some (.slice (some ⟨g, 0, none⟩) 1 c)) (c1 : w.cell? ⟨g, 0, none⟩ = some (.pointer (some ⟨hb, 0, none⟩)))
    (H62 : Hid (∀ w1, Below w.heap.size w w1 → Calls Try.prog 62 #[.pointer (some ⟨hb, 0, none⟩)] w1 fun e w' => ∃ x : Int, e = .returned (.tuple #[.int .i64 x, .agg #[.int .i64 a, .int .i64 b, .int .i64 d], .int .i64 0]) ∧ Below w1.heap.size w1 w')) :
    Calls Try.prog 41 #[.pointer (some ⟨lb, 0, none⟩)] w fun e w' => e = .returned (.pointer (some ⟨hb, 0, none⟩)) ∧ Below w.heap.size w w' := by
  have hl := cell_lt c0
  have hg := cell_lt c1
  simp only at hl hg
  go_enter Try.func41, Try.ntmps41
  go_upto_region 3 with fail
  have B1 : Hid (Below w.heap.size w (w.alloc (.cells #[.int .i64 0, .int .i64 0, .int .i64 0] 91))) := (Below.refl _ w).alloc (Nat.le_refl _) _
  have c0 := cell_below c0 B1.out
  have c1 := cell_below c1 B1.out
  have N0 : (w.alloc (.cells #[.int .i64 0, .int .i64 0, .int .i64 0] 91)).heap[w.heap.size]? = some (.cells #[.int .i64 0, .int .i64 0, .int .i64 0] 91 (0, 0)) := new0
  generalize w.alloc (.cells #[.int .i64 0, .int .i64 0, .int .i64 0] 91) = W at *
  have hW := B1.out.size
  go_wp2_with fail
  refine wp_loop_rounds 2 ?_
  rw [rounds_succ]
  go_upto_region 7 with (go_at_call 62; refine (H62.out _ B1.out).mono ?_; rintro e w2 ⟨x, rfl, b2⟩)
  have N1 := at_below b2 (Nat.le_refl _) N0
  have hl2 := (Array.getElem?_eq_some_iff.1 N1).1
  have N2 := at_alloc (o := .cells #[.int .i64 a, .int .i64 b, .int .i64 d] 91) N1
  have N3 := new0 (w := w2) (o := .cells #[.int .i64 a, .int .i64 b, .int .i64 d] 91)
  have B2 : Hid (Below w.heap.size w (w2.alloc (.cells #[.int .i64 a, .int .i64 b, .int .i64 d] 91))) := (below_from B1.out b2 hW).alloc (Nat.le_trans hW b2.size) _
  generalize w2.alloc (.cells #[.int .i64 a, .int .i64 b, .int .i64 d] 91) = W2 at *
  have e0 := Lib.cell_of_heap N2 0
  have d0 := Lib.cell_of_heap N3 0
  have d1 := Lib.cell_of_heap N3 1
  have d2 := Lib.cell_of_heap N3 2
  have e1 := Lib.cell_of_heap N2 1
  have e2 := Lib.cell_of_heap N2 2
  have f0 := fz N2 0
  have f1 := fz N2 1
  have f2 := fz N2 2
  have hne : w.heap.size ≠ w2.heap.size := by omega
  have hlt := (Array.getElem?_eq_some_iff.1 N3).1
  have hlt2 := (Array.getElem?_eq_some_iff.1 N2).1
  go_quiet (fail)
  go_upto_region 8 with fail
  go_region
  go_wp2_with fail
  rw [rounds_succ]
  go_wp2_with fail
  go_ret
  refine ⟨rfl, ?_⟩
  refine Below.setCell (Below.setCell (Below.setCell ?_ (Nat.le_refl w.heap.size) _) (Nat.le_refl w.heap.size) _) (Nat.le_refl w.heap.size) _
  exact below_drewN B2.out _
end Go.Proofs.Ytcfnonfghlgphaa
