/-
  The walk of the law RatioMakes.
-/
import Derived.Test.YtfcegoibelokpaaBigF
namespace Go.Proofs.Ytfcegoibelokpaa
open Go.RowKit Go.Sort Big

theorem rcmp_any (a b c d : Nat) (w : World) (ha : a < 18446744073709551616) (hb : b < 18446744073709551616) (hc : c < 18446744073709551616) (hd : d < 18446744073709551616) :
    Calls Try.prog 12 #[.agg #[.int .u64 a, .int .u64 b], .agg #[.int .u64 c, .int .u64 d]] w fun r w' => r = ansC (Q.cmpR a b c d) ∧ RowKit.Below w.heap.size w w' := by
  unfold Q.cmpR
  by_cases h : b = 0 ∨ d = 0
  · rw [if_pos h]; exact rcmp_bad a b c d w h
  · rw [if_neg h]
    have hb0 : ((b : Int) == 0) = false := by simp; omega
    have hd0 : ((d : Int) == 0) = false := by simp; omega
    have p1 : a * d < 18446744073709551616 * 18446744073709551616 := Nat.mul_lt_mul'' ha hd
    have p2 : c * b < 18446744073709551616 * 18446744073709551616 := Nat.mul_lt_mul'' hc hb
    have q1 : a * d < 2 ^ 256 := Nat.lt_trans p1 (by decide)
    have q2 : c * b < 2 ^ 256 := Nat.lt_trans p2 (by decide)
    by_cases hs : a < 4294967296 ∧ b < 4294967296 ∧ c < 4294967296 ∧ d < 4294967296
    · have s1 : a * d < 4294967296 * 4294967296 := Nat.mul_lt_mul'' hs.1 hs.2.2.2
      have s2 : c * b < 4294967296 * 4294967296 := Nat.mul_lt_mul'' hs.2.2.1 hs.2.1
      have := rcmp_small a b c d (a * d) (c * b) (Q.ord (a * d) (c * b)) (bigR (BitVec.ofNat 256 (a * d))) (bigR (BitVec.ofNat 256 (c * b))) w hb0 hd0 (by omega) (by omega) (by omega) (by omega)
        (by rw [show (a : Int) * (d : Int) = ((a * d : Nat) : Int) by simp, IntKind.wrap_u64]; omega) (by rw [show (c : Int) * (b : Int) = ((c * b : Nat) : Int) by simp, IntKind.wrap_u64]; omega)
        (fun w => of_any (a * d) w (by omega)) (fun w => of_any (c * b) w (by omega)) (fun w => by have := bigcmp_any (BitVec.ofNat 256 (a * d)) (BitVec.ofNat 256 (c * b)) w; rwa [cmp_ofNat q1 q2] at this)
      exact this
    · have hcase : decide ((a : Int) < 4294967296) = false ∨ ((a : Int) < 4294967296 ∧ decide ((b : Int) < 4294967296) = false) ∨ ((a : Int) < 4294967296 ∧ (b : Int) < 4294967296 ∧ decide ((c : Int) < 4294967296) = false) ∨ ((a : Int) < 4294967296 ∧ (b : Int) < 4294967296 ∧ (c : Int) < 4294967296 ∧ decide ((d : Int) < 4294967296) = false) := by
        simp only [decide_eq_false_iff_not]
        omega
      have := rcmp_big a b c d (Q.ord (a * d) (c * b)) (bigR (BitVec.ofNat 256 a)) (bigR (BitVec.ofNat 256 c)) (bigR (BitVec.ofNat 256 (a * d))) (bigR (BitVec.ofNat 256 (c * b))) w hb0 hd0 hcase
        (fun w => of_any a w ha) (fun w => of_any c w hc) (fun w => by have := times_big (BitVec.ofNat 256 a) d w hd; rwa [tm_ofNat a d hd] at this) (fun w => by have := times_big (BitVec.ofNat 256 c) b w hb; rwa [tm_ofNat c b hb] at this)
        (fun w => by have := bigcmp_any (BitVec.ofNat 256 (a * d)) (BitVec.ofNat 256 (c * b)) w; rwa [cmp_ofNat q1 q2] at this)
      exact this

set_option maxHeartbeats 4000000 in
theorem makes_at (a b c d x y e o g : Int) (w : World)
    (H9 : Hid (∀ w, Calls Try.prog 9 #[.int .u64 a, .int .u64 b] w fun r w' => r = .returned (.tuple #[.agg #[.int .u64 x, .int .u64 y], .int .i64 e]) ∧ RowKit.Below w.heap.size w w'))
    (H10 : Hid (∀ w, Calls Try.prog 10 #[.int .u64 a, .int .u64 b] w fun r w' => r = .returned (.tuple #[.agg #[.int .u64 x, .int .u64 y], .int .i64 e]) ∧ RowKit.Below w.heap.size w w'))
    (H11 : Hid (∀ w, Calls Try.prog 11 #[.agg #[.int .u64 a, .int .u64 b], .agg #[.int .u64 c, .int .u64 d]] w fun r w' => r = .returned (.tuple #[.int .i64 o, .int .i64 g]) ∧ RowKit.Below w.heap.size w w'))
    (H12 : Hid (∀ w, Calls Try.prog 12 #[.agg #[.int .u64 a, .int .u64 b], .agg #[.int .u64 c, .int .u64 d]] w fun r w' => r = .returned (.tuple #[.int .i64 o, .int .i64 g]) ∧ RowKit.Below w.heap.size w w'))
    (P1 : Hid (∀ w, Calls Try.prog 13 #[.agg #[.int .u64 a, .int .u64 b]] w fun r w' => r = .returned (.agg #[.int .u64 a, .int .u64 b]) ∧ RowKit.Below w.heap.size w w'))
    (P2 : Hid (∀ w, Calls Try.prog 13 #[.agg #[.int .u64 c, .int .u64 d]] w fun r w' => r = .returned (.agg #[.int .u64 c, .int .u64 d]) ∧ RowKit.Below w.heap.size w w'))
    (H14 : Hid (∀ w, Calls Try.prog 14 #[.agg #[.int .u64 x, .int .u64 y], .int .i64 e, .agg #[.int .u64 x, .int .u64 y], .int .i64 e] w fun r w' => r = .returned (.bool true) ∧ RowKit.Below w.heap.size w w')) :
    Calls Try.prog 3 #[.agg #[.int .u64 a, .int .u64 b], .agg #[.int .u64 c, .int .u64 d]] w fun r w' => r = .returned (.bool true) ∧ RowKit.Below w.heap.size w w' := by
  go_enter Try.func3, Try.ntmps3
  go_upto_region 6 with (first
    | (go_at_call 8; refine (awake_any _).mono ?_; rintro r w1 ⟨rfl, b1⟩; have z1 := keep2 b1 first0; have z2 := keep2 b1 first1; obtain ⟨p1, pa0, pa1, pa2, pa3, pa4, pa5⟩ := z1; obtain ⟨q1, qa0, qa1, qa2, qa3, qa4, qa5⟩ := z2; have y1 : Hid (RowKit.Below w.heap.size w w1) := below_from (((Below.refl _ w).alloc (Nat.le_refl _) _).alloc (by simp) _) b1 (by simp; omega); clear b1)
    | (go_at_call 9; refine (H9.out _).mono ?_; rintro r w2 ⟨rfl, b2⟩; clear pa0 pa1 pa2 pa3 pa4 pa5 qa0 qa1 qa2 qa3 qa4 qa5; have z1 := keep2 b2 p1; have z2 := keep2 b2 q1; obtain ⟨p2, pa0, pa1, pa2, pa3, pa4, pa5⟩ := z1; obtain ⟨q2, qa0, qa1, qa2, qa3, qa4, qa5⟩ := z2; have y2 : Hid (RowKit.Below w.heap.size w w2) := below_from y1.out b2 y1.out.size; clear b2 y1)
    | (go_at_call 10; refine (H10.out _).mono ?_; rintro r w3 ⟨rfl, b3⟩; clear pa0 pa1 pa2 pa3 pa4 pa5 qa0 qa1 qa2 qa3 qa4 qa5; have z1 := keep2 b3 (at_alloc p2); have z2 := keep2 b3 (at_alloc q2); have z3 := keep2 b3 new0; obtain ⟨p3, pa0, pa1, pa2, pa3, pa4, pa5⟩ := z1; obtain ⟨q3, qa0, qa1, qa2, qa3, qa4, qa5⟩ := z2; obtain ⟨s3, sa0, sa1, sa2, sa3, sa4, sa5⟩ := z3; have y3 : Hid (RowKit.Below w.heap.size w w3) := below_from (y2.out.alloc y2.out.size _) b3 (by have := y2.out.size; simp; omega); clear b3 y2)
    | (go_at_call 11; refine (H11.out _).mono ?_; rintro r w4 ⟨rfl, b4⟩; clear pa0 pa1 pa2 pa3 pa4 pa5 qa0 qa1 qa2 qa3 qa4 qa5 sa0 sa1 sa2 sa3 sa4 sa5; have z1 := keep2 b4 (at_alloc p3); have z2 := keep2 b4 (at_alloc q3); have z3 := keep2 b4 (at_alloc s3); have z4 := keep2 b4 new0; obtain ⟨p4, pa0, pa1, pa2, pa3, pa4, pa5⟩ := z1; obtain ⟨q4, qa0, qa1, qa2, qa3, qa4, qa5⟩ := z2; have s4 := z3.1; have t4 := z4.1; clear z3 z4; have y4 : Hid (RowKit.Below w.heap.size w w4) := below_from (y3.out.alloc y3.out.size _) b4 (by have := y3.out.size; simp; omega); clear b4 y3))
  have n0 := cell_regrown pa0
  have n1 := cell_regrown pa1
  have n2 := cell_regrown qa0
  have n3 := cell_regrown qa1
  have G1 := grown (W := w4) P1
  have G2 := grown (W := w4) P2
  have G3 := grown (W := w4) H12
  clear pa0 pa1 pa2 pa3 pa4 pa5 qa0 qa1 qa2 qa3 qa4 qa5 P1 P2 H12 H9 H10 H11
  refine wp_region_quiet_below (by kernel_rfl) (by kernel_rfl) ?_
  repeat (quiet_step (first | (go_at_call_of 13 (Value.agg #[.int .u64 a, .int .u64 b]); exact G1.out _ _) | (go_at_call_of 13 (Value.agg #[.int .u64 c, .int .u64 d]); exact G2.out _ _) | (go_at_call 12; exact G3.out _ _)))
  refine wpQuiet_nil ?_
  intro _ hw'
  obtain ⟨⟨dq, osq⟩, hw''⟩ := hw'
  subst hw''
  have b5 := below_regrown w4 dq osq
  have z1 := keep2 b5 s4
  have z2 := keep2 b5 t4
  have y5 : Hid (RowKit.Below w.heap.size w (grow (redrawn w4 dq) osq)) := below_from y4.out b5 y4.out.size
  clear b5 n0 n1 n2 n3 G1 G2 G3
  generalize grow (redrawn w4 dq) osq = w5 at *
  obtain ⟨s5, sa0, sa1, sa2, sa3, sa4, sa5⟩ := z1
  obtain ⟨t5, ta0, ta1, ta2, ta3, ta4, ta5⟩ := z2
  go_wp2_with (go_at_call 14; refine (H14.out _).mono ?_; rintro r w6 ⟨rfl, b6⟩; have y6 : Hid (RowKit.Below w.heap.size w w6) := below_from y5.out b6 y5.out.size)
  go_ret
  exact ⟨rfl, y6.out⟩

theorem law_makes (a b c d : Nat) (w : World) (ha : a < 18446744073709551616) (hb : b < 18446744073709551616) (hc : c < 18446744073709551616) (hd : d < 18446744073709551616) :
    Calls Try.prog 3 #[.agg #[.int .u64 a, .int .u64 b], .agg #[.int .u64 c, .int .u64 d]] w fun r w' => r = .returned (.bool true) ∧ RowKit.Below w.heap.size w w' :=
  makes_at a b c d _ _ _ _ _ w (fun w => new_any a b w ha hb) (fun w => rnew_any a b w ha hb) (fun w => cmp_any a b c d w ha hb hc hd) (fun w => rcmp_any a b c d w ha hb hc hd) (fun w => plain_any a b w) (fun w => plain_any c d w)
    (fun w => same_any _ _ _ w (fun w => plain_any _ _ w))

end Go.Proofs.Ytfcegoibelokpaa
