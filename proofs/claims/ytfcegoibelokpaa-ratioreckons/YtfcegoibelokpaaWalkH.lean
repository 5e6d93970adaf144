/-
  The contracts of the program's Cmp and New, and that it is awake.
-/
import Derived.Test.YtfcegoibelokpaaWalkC
namespace Go.Proofs.Ytfcegoibelokpaa
open Go.RowKit

/-- a comparison and an error's number -/
def ansC (r : Int × Nat) : Ending := .returned (.tuple #[.int .i64 r.1, .int .i64 r.2])

set_option maxHeartbeats 1000000 in
theorem cmp_bad (a b c d : Nat) (w : World) (h : b = 0 ∨ d = 0) :
    Calls Try.prog 11 #[.agg #[.int .u64 a, .int .u64 b], .agg #[.int .u64 c, .int .u64 d]] w fun e w' => e = ansC (0, 4) ∧ Below w.heap.size w w' := by
  have HF : Hid (∀ w, Calls Try.prog 22 #[.agg #[.int .u64 a, .int .u64 b], .agg #[.int .u64 c, .int .u64 d]] w fun e w' => e = .returned (.bool false) ∧ Below w.heap.size w w') := fun w => by
    have := formed_any a b c d w
    rw [show decide (b ≠ 0 ∧ d ≠ 0) = false by simp; omega] at this
    exact this
  clear h
  go_enter Try.func11, Try.ntmps11
  go_wp2_with (go_at_call 22; refine (HF.out _).mono ?_; rintro e w1 ⟨rfl, b1⟩)
  go_ret2
  refine ⟨rfl, below_from (by go_grown) b1 (by simp; omega)⟩

set_option maxHeartbeats 1000000 in
theorem cmp_good (a b c d : Nat) (w : World) (ha : a < 18446744073709551616) (hb : b < 18446744073709551616) (hc : c < 18446744073709551616) (hd : d < 18446744073709551616) (h1 : b ≠ 0) (h2 : d ≠ 0) :
    Calls Try.prog 11 #[.agg #[.int .u64 a, .int .u64 b], .agg #[.int .u64 c, .int .u64 d]] w fun e w' => e = ansC (Q.ord (a * d) (c * b), 0) ∧ Below w.heap.size w w' := by
  have HF : Hid (∀ w, Calls Try.prog 22 #[.agg #[.int .u64 a, .int .u64 b], .agg #[.int .u64 c, .int .u64 d]] w fun e w' => e = .returned (.bool true) ∧ Below w.heap.size w w') := fun w => by
    have := formed_any a b c d w
    rw [show decide (b ≠ 0 ∧ d ≠ 0) = true by simp; omega] at this
    exact this
  have HC : Hid (∀ w, Calls Try.prog 23 #[.agg #[.int .u64 a, .int .u64 b], .agg #[.int .u64 c, .int .u64 d]] w fun e w' => e = .returned (.int .i64 (Q.ord (a * d) (c * b))) ∧ Below w.heap.size w w') := fun w => cmps_any a b c d w ha hb hc hd
  generalize Q.ord (a * d) (c * b) = o at *
  clear h1 h2 ha hb hc hd
  go_enter Try.func11, Try.ntmps11
  go_wp2_with (go_at_call 22; refine (HF.out _).mono ?_; rintro e w1 ⟨rfl, b1⟩; have y1 : Hid (Below w.heap.size w w1) := below_from (by go_grown) b1 (by simp; omega); have z1 := keep2 b1 first0; have z2 := keep2 b1 first1)
  obtain ⟨z10, z11, z12, z13, z14, z15, z16⟩ := z1
  obtain ⟨z20, z21, z22, z23, z24, z25, z26⟩ := z2
  go_wp2_with (go_at_call 23; refine (HC.out _).mono ?_; rintro e w2 ⟨rfl, b2⟩)
  go_ret2
  refine ⟨rfl, below_from y1.out b2 y1.out.size⟩

theorem cmp_any (a b c d : Nat) (w : World) (ha : a < 18446744073709551616) (hb : b < 18446744073709551616) (hc : c < 18446744073709551616) (hd : d < 18446744073709551616) :
    Calls Try.prog 11 #[.agg #[.int .u64 a, .int .u64 b], .agg #[.int .u64 c, .int .u64 d]] w fun e w' => e = ansC (Q.cmpR a b c d) ∧ Below w.heap.size w w' := by
  unfold Q.cmpR
  by_cases h : b = 0 ∨ d = 0
  · rw [if_pos h]; exact cmp_bad a b c d w h
  · rw [if_neg h]; exact cmp_good a b c d w ha hb hc hd (by omega) (by omega)

set_option maxHeartbeats 1000000 in
theorem new_good (n d : Nat) (w : World) (hn : n < 18446744073709551616) (hd : d < 18446744073709551616) (h : 0 < d) :
    Calls Try.prog 9 #[.int .u64 n, .int .u64 d] w fun e w' => e = ans (n / n.gcd d, d / n.gcd d, 0) ∧ Below w.heap.size w w' := by
  have HL : Hid (∀ w, Calls Try.prog 21 #[.agg #[.int .u64 n, .int .u64 d]] w fun e w' => e = .returned (.agg #[.int .u64 (n / n.gcd d : Nat), .int .u64 (d / n.gcd d : Nat)]) ∧ Below w.heap.size w w') := fun w => lowest_any n d w hn hd h
  have hd0 : ((d : Int) == 0) = false := by simp; omega
  generalize n / n.gcd d = x at *
  generalize d / n.gcd d = y at *
  go_enter Try.func9, Try.ntmps9
  go_wp2_with (go_at_call 21; refine (HL.out _).mono ?_; rintro e w1 ⟨rfl, b1⟩; have y1 : Hid (Below w.heap.size w w1) := below_from (by go_grown) b1 (by simp); have z1 := keep2 b1 new0)
  have r := at_set2 (v := .int .u64 x) (v' := .int .u64 y) z1.1
  have c0 := Lib.cell_of_heap r 0
  have c1 := Lib.cell_of_heap r 1
  simp only [List.getElem?_toArray, List.getElem?_cons_zero, List.getElem?_cons_succ] at c0 c1
  refine bodyPost_ret (by simp [results, Try.results9, go_sem, c0, c1]; rfl) rfl ?_
  exact ⟨rfl, (y1.out.setCell (Nat.le_refl _) _).setCell (Nat.le_refl _) _⟩

set_option maxHeartbeats 1000000 in
theorem new_bad (n : Nat) (w : World) :
    Calls Try.prog 9 #[.int .u64 n, .int .u64 0] w fun e w' => e = ans (0, 0, 2) ∧ Below w.heap.size w w' := by
  go_enter Try.func9, Try.ntmps9
  go_wp2_with fail
  go_returns
  refine ⟨rfl, ?_⟩
  go_grown

theorem new_any (n d : Nat) (w : World) (hn : n < 18446744073709551616) (hd : d < 18446744073709551616) :
    Calls Try.prog 9 #[.int .u64 n, .int .u64 d] w fun e w' => e = ans (Q.newR n d) ∧ Below w.heap.size w w' := by
  unfold Q.newR
  by_cases h : d = 0
  · subst h; rw [if_pos rfl]; exact new_bad n w
  · rw [if_neg h]; exact new_good n d w hn hd (by omega)

set_option maxHeartbeats 1000000 in
theorem awake_any (w : World) : Calls Try.prog 8 #[] w fun e w' => e = .returned (.bool true) ∧ Below w.heap.size w w' := by
  have HN : Hid (∀ w, Calls Try.prog 9 #[.int .u64 6, .int .u64 4] w fun e w' => e = .returned (.tuple #[.agg #[.int .u64 3, .int .u64 2], .int .i64 0]) ∧ Below w.heap.size w w') := fun w => by
    have := new_good 6 4 w (by decide) (by decide) (by decide)
    exact this
  have HC : Hid (∀ w, Calls Try.prog 11 #[.agg #[.int .u64 1, .int .u64 3], .agg #[.int .u64 1, .int .u64 2]] w fun e w' => e = .returned (.tuple #[.int .i64 (-1), .int .i64 0]) ∧ Below w.heap.size w w') := fun w => by
    have := cmp_good 1 3 1 2 w (by decide) (by decide) (by decide) (by decide) (by decide) (by decide)
    exact this
  go_enter Try.func8, Try.ntmps8
  go_wp2_with (go_at_call 9; refine (HN.out _).mono ?_)
  rintro e w1 ⟨rfl, b1⟩
  go_wp2_with (go_at_call 11; refine (HC.out _).mono ?_)
  rintro e w2 ⟨rfl, b2⟩
  obtain ⟨z0, z1, z2, z3, z4, z5, z6⟩ := keep2 b2 new0
  have b2s := b2.size
  rw [World.size_alloc] at b2s
  have b1s := b1.size
  go_wp2_with fail
  go_ret
  exact ⟨rfl, (b1.alloc b1s _).trans (b2.mono (by simp; omega))⟩

end Go.Proofs.Ytfcegoibelokpaa
