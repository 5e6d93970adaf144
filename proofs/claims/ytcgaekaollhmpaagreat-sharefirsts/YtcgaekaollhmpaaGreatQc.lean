/-
  The ratio's Cmp.
-/
import Derived.Test.YtcgaekaollhmpaaGreatQb
namespace Go.Proofs.YtcgaekaollhmpaaGreat
open Go.RowKit
/-- a comparison and an error's number -/
def ansC (r : Int × Nat) : Ending := .returned (.tuple #[.int .i64 r.1, .int .i64 r.2])

set_option maxHeartbeats 1000000 in
theorem rat_cmp_bad (a b c d : Nat) (w : World) (h : b = 0 ∨ d = 0) :
    Calls Tryz.prog 33 #[.agg #[.int .u64 a, .int .u64 b], .agg #[.int .u64 c, .int .u64 d]] w fun e w' => e = ansC (0, 4) ∧ Below w.heap.size w w' := by
  have HF : Hid (∀ w, Calls Tryz.prog 56 #[.agg #[.int .u64 a, .int .u64 b], .agg #[.int .u64 c, .int .u64 d]] w fun e w' => e = .returned (.bool false) ∧ Below w.heap.size w w') := fun w => by
    have := rat_formed a b c d w
    rw [show decide (b ≠ 0 ∧ d ≠ 0) = false by simp; omega] at this
    exact this
  clear h
  go_enter Tryz.func33, Tryz.ntmps33
  go_wp2_with (go_at_call 56; refine (HF.out _).mono ?_; rintro e w1 ⟨rfl, b1⟩)
  go_ret2
  refine ⟨rfl, below_from (by go_grown) b1 (by simp; omega)⟩

set_option maxHeartbeats 1000000 in
theorem rat_cmp_good (a b c d : Nat) (w : World) (ha : a < 18446744073709551616) (hb : b < 18446744073709551616) (hc : c < 18446744073709551616) (hd : d < 18446744073709551616) (h1 : b ≠ 0) (h2 : d ≠ 0) :
    Calls Tryz.prog 33 #[.agg #[.int .u64 a, .int .u64 b], .agg #[.int .u64 c, .int .u64 d]] w fun e w' => e = ansC (Q.ord (a * d) (c * b), 0) ∧ Below w.heap.size w w' := by
  have HF : Hid (∀ w, Calls Tryz.prog 56 #[.agg #[.int .u64 a, .int .u64 b], .agg #[.int .u64 c, .int .u64 d]] w fun e w' => e = .returned (.bool true) ∧ Below w.heap.size w w') := fun w => by
    have := rat_formed a b c d w
    rw [show decide (b ≠ 0 ∧ d ≠ 0) = true by simp; omega] at this
    exact this
  have HC : Hid (∀ w, Calls Tryz.prog 57 #[.agg #[.int .u64 a, .int .u64 b], .agg #[.int .u64 c, .int .u64 d]] w fun e w' => e = .returned (.int .i64 (Q.ord (a * d) (c * b))) ∧ Below w.heap.size w w') := fun w => cmps_any a b c d w ha hb hc hd
  generalize Q.ord (a * d) (c * b) = o at *
  clear h1 h2 ha hb hc hd
  go_enter Tryz.func33, Tryz.ntmps33
  go_wp2_with (go_at_call 56; refine (HF.out _).mono ?_; rintro e w1 ⟨rfl, b1⟩; have y1 : Hid (Below w.heap.size w w1) := below_from (by go_grown) b1 (by simp; omega); have z1 := keep2 b1 first0; have z2 := keep2 b1 first1)
  obtain ⟨z10, z11, z12, z13, z14, z15, z16⟩ := z1
  obtain ⟨z20, z21, z22, z23, z24, z25, z26⟩ := z2
  go_wp2_with (go_at_call 57; refine (HC.out _).mono ?_; rintro e w2 ⟨rfl, b2⟩)
  go_ret2
  refine ⟨rfl, below_from y1.out b2 y1.out.size⟩

end Go.Proofs.YtcgaekaollhmpaaGreat
