/-
  The walk of the law RatioBack: it returns true and writes nothing that was there.
-/
import Derived.Test.YtfcegoibelokpaaWalkM
import Derived.Test.YtfcegoibelokpaaWalkH
namespace Go.Proofs.Ytfcegoibelokpaa
open Go.RowKit

set_option maxHeartbeats 4000000 in
theorem back_at (a b c d x y e1 p q e2 rx ry i j : Nat) (o : Int) (w : World)
    (A1 : Hid (∀ w, Calls Try.prog 15 #[.agg #[.int .u64 a, .int .u64 b], .agg #[.int .u64 c, .int .u64 d]] w fun e w' => e = .returned (.tuple #[.agg #[.int .u64 x, .int .u64 y], .int .i64 (e1 : Nat)]) ∧ Below w.heap.size w w'))
    (A2 : Hid (∀ w, Calls Try.prog 15 #[.agg #[.int .u64 c, .int .u64 d], .agg #[.int .u64 a, .int .u64 b]] w fun e w' => e = .returned (.tuple #[.agg #[.int .u64 x, .int .u64 y], .int .i64 (e1 : Nat)]) ∧ Below w.heap.size w w'))
    (M1 : Hid (∀ w, Calls Try.prog 19 #[.agg #[.int .u64 a, .int .u64 b], .agg #[.int .u64 c, .int .u64 d]] w fun e w' => e = .returned (.tuple #[.agg #[.int .u64 p, .int .u64 q], .int .i64 (e2 : Nat)]) ∧ Below w.heap.size w w'))
    (M2 : Hid (∀ w, Calls Try.prog 19 #[.agg #[.int .u64 c, .int .u64 d], .agg #[.int .u64 a, .int .u64 b]] w fun e w' => e = .returned (.tuple #[.agg #[.int .u64 p, .int .u64 q], .int .i64 (e2 : Nat)]) ∧ Below w.heap.size w w'))
    (S : Hid (e1 = 0 → ∀ w, Calls Try.prog 17 #[.agg #[.int .u64 x, .int .u64 y], .agg #[.int .u64 c, .int .u64 d]] w fun e w' => e = .returned (.tuple #[.agg #[.int .u64 rx, .int .u64 ry], .int .i64 (i : Nat)]) ∧ Below w.heap.size w w'))
    (O : Hid (∀ w, Calls Try.prog 11 #[.agg #[.int .u64 rx, .int .u64 ry], .agg #[.int .u64 a, .int .u64 b]] w fun e w' => e = .returned (.tuple #[.int .i64 o, .int .i64 (j : Nat)]) ∧ Below w.heap.size w w'))
    (hcase : e1 = 4 ∨ e1 = 7 ∨ (e1 = 0 ∧ i = 7) ∨ (e1 = 0 ∧ i = 0 ∧ j = 0 ∧ o = 0)) :
    Calls Try.prog 6 #[.agg #[.int .u64 a, .int .u64 b], .agg #[.int .u64 c, .int .u64 d]] w fun e w' => e = .returned (.bool true) ∧ Below w.heap.size w w' := by
  have HK : Hid (e1 = 4 ∨ e1 = 7 ∨ (e1 = 0 ∧ i = 7) ∨ (e1 = 0 ∧ i = 0 ∧ j = 0 ∧ o = 0)) := hcase
  clear hcase
  go_enter Try.func6, Try.ntmps6
  go_upto_region 3 with (go_at_call 8; refine (awake_any _).mono ?_; rintro e w1 ⟨rfl, b1⟩; have y1 : Hid (Below w.heap.size w w1) := below_from (by go_grown) b1 (by simp; omega); have za := keep2 b1 first0; have zb := keep2 b1 first1)
  obtain ⟨p0, p1, p2, -, -, -, -⟩ := za
  obtain ⟨q0, q1, q2, -, -, -, -⟩ := zb
  clear b1
  go_upto_region 4 with (go_at_call 15; refine (A1.out _).mono ?_; rintro e w2 ⟨rfl, b2⟩; have y2 : Hid (Below w.heap.size w w2) := below_from y1.out b2 y1.out.size; have za := keep2 b2 p0; have zb := keep2 b2 q0)
  clear p0 p1 p2 q0 q1 q2
  obtain ⟨p0, p1, p2, -, -, p3, p4⟩ := za
  obtain ⟨q0, q1, q2, -, -, q3, q4⟩ := zb
  clear b2 y1
  go_upto_region 5 with (go_at_call 15; refine (A2.out _).mono ?_; rintro e w3 ⟨rfl, b3⟩; have y3 : Hid (Below w.heap.size w w3) := below_from (y2.out.alloc y2.out.size _) b3 (by have := y2.out.size; simp; omega); have za := keep2 b3 (at_alloc p0); have zb := keep2 b3 (at_alloc q0); have zc := keep2 b3 new0)
  clear p0 p1 p2 q0 q1 q2 p3 p4 q3 q4
  obtain ⟨p0, p1, p2, -, -, p3, p4⟩ := za
  obtain ⟨q0, q1, q2, -, -, q3, q4⟩ := zb
  obtain ⟨r0, r1, r2, -, -, r3, r4⟩ := zc
  clear b3 y2
  go_upto_region 6 with (go_at_call 19; refine (M1.out _).mono ?_; rintro e w4 ⟨rfl, b4⟩; have y4 : Hid (Below w.heap.size w w4) := below_from (y3.out.alloc y3.out.size _) b4 (by have := y3.out.size; simp; omega); have za := keep2 b4 (at_alloc p0); have zb := keep2 b4 (at_alloc q0); have zc := keep2 b4 (at_alloc r0); have zd := keep2 b4 new0)
  clear p0 p1 p2 q0 q1 q2 p3 p4 q3 q4 r0 r1 r2 r3 r4
  obtain ⟨p0, p1, p2, -, -, p3, p4⟩ := za
  obtain ⟨q0, q1, q2, -, -, q3, q4⟩ := zb
  obtain ⟨r0, r1, r2, -, -, r3, r4⟩ := zc
  obtain ⟨s0, s1, s2, -, -, s3, s4⟩ := zd
  clear b4 y3
  go_upto_region 7 with (go_at_call 19; refine (M2.out _).mono ?_; rintro e w5 ⟨rfl, b5⟩; have y5 : Hid (Below w.heap.size w w5) := below_from (y4.out.alloc y4.out.size _) b5 (by have := y4.out.size; simp; omega); have za := keep2 b5 (at_alloc p0); have zb := keep2 b5 (at_alloc q0); have zc := keep2 b5 (at_alloc r0); have zd := keep2 b5 (at_alloc s0); have ze := keep2 b5 new0)
  clear p0 p1 p2 q0 q1 q2 p3 p4 q3 q4 r0 r1 r2 r3 r4 s0 s1 s2 s3 s4
  obtain ⟨p0, p1, p2, -, -, p3, p4⟩ := za
  obtain ⟨q0, q1, q2, -, -, q3, q4⟩ := zb
  obtain ⟨r0, r1, r2, -, -, r3, r4⟩ := zc
  obtain ⟨s0, s1, s2, -, -, s3, s4⟩ := zd
  obtain ⟨t0, t1, t2, -, -, t3, t4⟩ := ze
  clear b5 y4 A1 A2 M1 M2
  rcases HK.out with rfl | rfl | ⟨rfl, rfl⟩ | ⟨rfl, rfl, rfl, rfl⟩
  · clear HK S O
    go_wp2_with fail
    go_ret
    exact ⟨rfl, y5.out.alloc y5.out.size _⟩
  · clear HK S O
    go_wp2_with fail
    go_ret
    exact ⟨rfl, y5.out.alloc y5.out.size _⟩
  · have HS : Hid (∀ w, Calls Try.prog 17 #[.agg #[.int .u64 x, .int .u64 y], .agg #[.int .u64 c, .int .u64 d]] w fun e w' => e = .returned (.tuple #[.agg #[.int .u64 rx, .int .u64 ry], .int .i64 7]) ∧ Below w.heap.size w w') := S.out rfl
    clear HK S
    go_upto_region 12 with (go_at_call 17; refine (HS.out _).mono ?_; rintro e w6 ⟨rfl, b6⟩; have y6 : Hid (Below w.heap.size w w6) := below_from (y5.out.alloc y5.out.size _) b6 (by have := y5.out.size; simp; omega); have za := keep2 b6 (at_alloc p0))
    clear p0 p1 p2 q0 q1 q2 p3 p4 q3 q4 r0 r1 r2 r3 r4 s0 s1 s2 s3 s4 t0 t1 t2 t3 t4
    obtain ⟨p0, p1, p2, -, -, p3, p4⟩ := za
    clear b6
    go_wp2_with (go_at_call 11; refine (O.out _).mono ?_; rintro e w7 ⟨rfl, b7⟩; have y7 : Hid (Below w.heap.size w w7) := below_from (y6.out.alloc y6.out.size _) b7 (by have := y6.out.size; simp; omega))
    go_ret
    exact ⟨rfl, y7.out⟩
  · have HS : Hid (∀ w, Calls Try.prog 17 #[.agg #[.int .u64 x, .int .u64 y], .agg #[.int .u64 c, .int .u64 d]] w fun e w' => e = .returned (.tuple #[.agg #[.int .u64 rx, .int .u64 ry], .int .i64 0]) ∧ Below w.heap.size w w') := S.out rfl
    clear HK S
    go_upto_region 12 with (go_at_call 17; refine (HS.out _).mono ?_; rintro e w6 ⟨rfl, b6⟩; have y6 : Hid (Below w.heap.size w w6) := below_from (y5.out.alloc y5.out.size _) b6 (by have := y5.out.size; simp; omega); have za := keep2 b6 (at_alloc p0))
    clear p0 p1 p2 q0 q1 q2 p3 p4 q3 q4 r0 r1 r2 r3 r4 s0 s1 s2 s3 s4 t0 t1 t2 t3 t4
    obtain ⟨p0, p1, p2, -, -, p3, p4⟩ := za
    clear b6
    go_wp2_with (go_at_call 11; refine (O.out _).mono ?_; rintro e w7 ⟨rfl, b7⟩; have y7 : Hid (Below w.heap.size w w7) := below_from (y6.out.alloc y6.out.size _) b7 (by have := y6.out.size; simp; omega))
    go_ret
    exact ⟨rfl, y7.out⟩

theorem add_comm' (a b c d : Nat) : Q.addR c d a b = Q.addR a b c d := by
  unfold Q.addR
  rw [Nat.add_comm (c * b), Nat.mul_comm d b]
  by_cases h : b = 0 ∨ d = 0
  · rw [if_pos h, if_pos (by omega)]
  · rw [if_neg h, if_neg (by omega)]
theorem mul_comm' (a b c d : Nat) : Q.mulR c d a b = Q.mulR a b c d := by
  unfold Q.mulR
  rw [Nat.mul_comm c a, Nat.mul_comm d b]
  by_cases h : b = 0 ∨ d = 0
  · rw [if_pos h, if_pos (by omega)]
  · rw [if_neg h, if_neg (by omega)]

theorem low_bounds {n d x y e : Nat} (h : Q.low n d = (x, y, e)) : x < 18446744073709551616 ∧ y < 18446744073709551616 := by
  have := Q.low_lt n d
  rw [h] at this
  exact this

theorem back_cmp {a b c d x y rx ry : Nat} (hb : 0 < b) (hd : 0 < d) (hy : 0 < y) (h1 : (a * d + c * b) * y = x * (b * d)) (h2 : (x * d - c * y) * ry = rx * (y * d)) : rx * b = a * ry := by
  have e1 : (x * d - c * y) * b = a * y * d ∧ c * y ≤ x * d := by
    have h3 : x * d * b = (a * d + c * b) * y := by rw [h1]; ac_rfl
    have h4 : (a * d + c * b) * y = a * y * d + c * y * b := by rw [Nat.add_mul]; congr 1 <;> ac_rfl
    refine ⟨?_, ?_⟩
    · rw [Nat.sub_mul, h3, h4]; omega
    · refine Nat.le_of_mul_le_mul_right ?_ hb
      rw [h3, h4]; omega
  refine Nat.eq_of_mul_eq_mul_right (Nat.mul_pos hy hd) ?_
  calc rx * b * (y * d) = (rx * (y * d)) * b := by ac_rfl
    _ = ((x * d - c * y) * ry) * b := by rw [h2]
    _ = ((x * d - c * y) * b) * ry := by ac_rfl
    _ = (a * y * d) * ry := by rw [e1.1]
    _ = a * ry * (y * d) := by ac_rfl

theorem law_back (a b c d : Nat) (w : World) (ha : a < 18446744073709551616) (hb : b < 18446744073709551616) (hc : c < 18446744073709551616) (hd : d < 18446744073709551616) :
    Calls Try.prog 6 #[.agg #[.int .u64 a, .int .u64 b], .agg #[.int .u64 c, .int .u64 d]] w fun e w' => e = .returned (.bool true) ∧ Below w.heap.size w w' := by
  obtain ⟨x, y, e1, hA⟩ : ∃ x y e, Q.addR a b c d = (x, y, e) := ⟨_, _, _, rfl⟩
  obtain ⟨p, q, e2, hM⟩ : ∃ x y e, Q.mulR a b c d = (x, y, e) := ⟨_, _, _, rfl⟩
  obtain ⟨rx, ry, i, hS⟩ : ∃ x' y' e, Q.subR x y c d = (x', y', e) := ⟨_, _, _, rfl⟩
  have A1 := fun w => add_any a b c d w ha hb hc hd
  have A2 := fun w => add_any c d a b w hc hd ha hb
  have M1 := fun w => mul_any a b c d w ha hb hc hd
  have M2 := fun w => mul_any c d a b w hc hd ha hb
  rw [add_comm'] at A2
  rw [mul_comm'] at M2
  rw [hA] at A1 A2
  rw [hM] at M1 M2
  have bx : x < 18446744073709551616 ∧ y < 18446744073709551616 := by
    unfold Q.addR at hA
    split at hA
    · simp only [Prod.mk.injEq] at hA; omega
    · exact low_bounds hA
  have br : rx < 18446744073709551616 ∧ ry < 18446744073709551616 := by
    unfold Q.subR at hS
    split at hS
    · simp only [Prod.mk.injEq] at hS; omega
    split at hS
    · simp only [Prod.mk.injEq] at hS; omega
    · exact low_bounds hS
  have S := fun w => sub_any x y c d w bx.1 bx.2 hc hd
  rw [hS] at S
  have O := fun w => cmp_any rx ry a b w br.1 br.2 ha hb
  refine back_at a b c d x y e1 p q e2 rx ry i (Q.cmpR rx ry a b).2 (Q.cmpR rx ry a b).1 w A1 A2 M1 M2 (fun _ => S) O ?_
  unfold Q.addR at hA
  by_cases h : b = 0 ∨ d = 0
  · rw [if_pos h] at hA
    simp only [Prod.mk.injEq] at hA
    left; omega
  · rw [if_neg h] at hA
    have hb0 : 0 < b := by omega
    have hd0 : 0 < d := by omega
    rcases Q.low_cases (a * d + c * b) (b * d) with ⟨x', y', hl⟩ | hl
    · have hlo := hl
      rw [hA] at hl
      simp only [Prod.mk.injEq] at hl
      obtain ⟨rfl, rfl, rfl⟩ := hl
      obtain ⟨h1, hy, -, -, -⟩ := Q.low_out (Nat.mul_pos hb0 hd0) hlo
      have hle : c * y ≤ x * d := by
        refine Nat.le_of_mul_le_mul_right ?_ hb0
        have : x * d * b = (a * d + c * b) * y := by rw [h1]; ac_rfl
        rw [this, Nat.add_mul]
        have : c * y * b = c * b * y := by ac_rfl
        omega
      unfold Q.subR at hS
      rw [if_neg (by omega), if_neg (by omega)] at hS
      rcases Q.low_cases (x * d - c * y) (y * d) with ⟨x'', y'', hl2⟩ | hl2
      · have hlo2 := hl2
        rw [hS] at hl2
        simp only [Prod.mk.injEq] at hl2
        obtain ⟨rfl, rfl, rfl⟩ := hl2
        obtain ⟨h2, hry, -, -, -⟩ := Q.low_out (Nat.mul_pos hy hd0) hlo2
        have hc0 := back_cmp hb0 hd0 hy h1 h2
        right; right; right
        unfold Q.cmpR
        rw [if_neg (by omega), hc0, Q.ord_self]
        exact ⟨rfl, rfl, rfl, rfl⟩
      · rw [hS] at hl2
        simp only [Prod.mk.injEq] at hl2
        right; right; left
        exact ⟨rfl, hl2.2.2⟩
    · rw [hA] at hl
      simp only [Prod.mk.injEq] at hl
      right; left; exact hl.2.2

end Go.Proofs.Ytfcegoibelokpaa
