/-
  The law RatioParts out of its walk: the mathematics of sums and products.
-/
import Derived.Test.YtfcegoibelokpaaLawP
namespace Go.Proofs.Ytfcegoibelokpaa
open Go.RowKit

theorem add_bounds {a b c d x y e : Nat} (h : Q.addR a b c d = (x, y, e)) : x < 18446744073709551616 ∧ y < 18446744073709551616 := by
  unfold Q.addR at h
  split at h
  · simp only [Prod.mk.injEq] at h; omega
  · exact low_bounds h
theorem mul_bounds {a b c d x y e : Nat} (h : Q.mulR a b c d = (x, y, e)) : x < 18446744073709551616 ∧ y < 18446744073709551616 := by
  unfold Q.mulR at h
  split at h
  · simp only [Prod.mk.injEq] at h; omega
  · exact low_bounds h
theorem add_fine {a b c d x y : Nat} (h : Q.addR a b c d = (x, y, 0)) : 0 < b ∧ 0 < d ∧ Q.low (a * d + c * b) (b * d) = (x, y, 0) := by
  unfold Q.addR at h
  split at h
  · simp at h
  · exact ⟨by omega, by omega, h⟩
theorem mul_fine {a b c d x y : Nat} (h : Q.mulR a b c d = (x, y, 0)) : 0 < b ∧ 0 < d ∧ Q.low (a * c) (b * d) = (x, y, 0) := by
  unfold Q.mulR at h
  split at h
  · simp at h
  · exact ⟨by omega, by omega, h⟩

theorem parts_same {a b c d f h x y px py xx xy yx yy zx zy : Nat} (h1 : Q.addR a b c d = (x, y, 0)) (h2 : Q.mulR x y f h = (px, py, 0)) (h3 : Q.mulR a b f h = (xx, xy, 0)) (h4 : Q.mulR c d f h = (yx, yy, 0)) (h5 : Q.addR xx xy yx yy = (zx, zy, 0)) :
    zx = px ∧ zy = py := by
  obtain ⟨hb, hd, k1⟩ := add_fine h1
  obtain ⟨hy, hh, k2⟩ := mul_fine h2
  obtain ⟨_, _, k3⟩ := mul_fine h3
  obtain ⟨_, _, k4⟩ := mul_fine h4
  obtain ⟨hxy, hyy, k5⟩ := add_fine h5
  obtain ⟨r1, _, _, _, _⟩ := Q.low_out (Nat.mul_pos hb hd) k1
  obtain ⟨r3, _, _, _, _⟩ := Q.low_out (Nat.mul_pos hb hh) k3
  obtain ⟨r4, _, _, _, _⟩ := Q.low_out (Nat.mul_pos hd hh) k4
  have e : Q.low (xx * yy + yx * xy) (xy * yy) = Q.low (x * f) (y * h) := by
    refine Q.low_congr (Nat.mul_pos hxy hyy) (Nat.mul_pos hy hh) ?_
    refine Nat.eq_of_mul_eq_mul_right (Nat.mul_pos hb hd) ?_
    rw [Nat.add_mul, Nat.add_mul]
    have t1 : xx * yy * (y * h) * (b * d) = a * d * y * (f * xy * yy) := by
      calc xx * yy * (y * h) * (b * d) = (xx * (b * h)) * (yy * y * d) := by ac_rfl
        _ = (a * f * xy) * (yy * y * d) := by rw [r3]
        _ = _ := by ac_rfl
    have t2 : yx * xy * (y * h) * (b * d) = c * b * y * (f * xy * yy) := by
      calc yx * xy * (y * h) * (b * d) = (yx * (d * h)) * (xy * y * b) := by ac_rfl
        _ = (c * f * yy) * (xy * y * b) := by rw [r4]
        _ = _ := by ac_rfl
    rw [t1, t2, ← Nat.add_mul, ← Nat.add_mul, r1]
    ac_rfl
  rw [k5, k2] at e
  simp only [Prod.mk.injEq, and_true] at e
  exact e

theorem parts_back {a b c d f h x y px py : Nat} (h1 : Q.addR a b c d = (x, y, 0)) (h2 : Q.mulR x y f h = (px, py, 0)) (hf : f ≠ 0) : Q.mulR px py h f = (x, y, 0) := by
  obtain ⟨hb, hd, k1⟩ := add_fine h1
  obtain ⟨hy, hh, k2⟩ := mul_fine h2
  obtain ⟨_, _, hco, lx, ly⟩ := Q.low_out (Nat.mul_pos hb hd) k1
  obtain ⟨r2, hpy, _, _, _⟩ := Q.low_out (Nat.mul_pos hy hh) k2
  unfold Q.mulR
  rw [if_neg (by omega), ← Q.low_prime hco lx ly]
  refine Q.low_congr (Nat.mul_pos hpy (by omega)) hy ?_
  calc px * h * y = px * (y * h) := by ac_rfl
    _ = x * f * py := r2.symm
    _ = _ := by ac_rfl

theorem parts_none {x y h px py : Nat} (h2 : Q.mulR x y 0 h = (px, py, 0)) : px = 0 ∧ py = 1 := by
  obtain ⟨hy, hh, k2⟩ := mul_fine h2
  unfold Q.low at k2
  rw [Nat.mul_zero, Nat.gcd_zero_left, Nat.zero_div, Nat.div_self (Nat.mul_pos hy hh), if_pos (by decide)] at k2
  simp only [Prod.mk.injEq, and_true] at k2
  exact ⟨k2.1.symm, k2.2.symm⟩

theorem law_parts (a b c d f h : Nat) (w : World) (ha : a < 18446744073709551616) (hb : b < 18446744073709551616) (hc : c < 18446744073709551616) (hd : d < 18446744073709551616) (hf : f < 18446744073709551616) (hh : h < 18446744073709551616) :
    Calls Try.prog 7 #[.agg #[.int .u64 a, .int .u64 b, .int .u64 c, .int .u64 d, .int .u64 f, .int .u64 h]] w fun e w' => e = .returned (.bool true) ∧ Below w.heap.size w w' := by
  obtain ⟨x, y, e1, h1⟩ : ∃ x y e, Q.addR a b c d = (x, y, e) := ⟨_, _, _, rfl⟩
  obtain ⟨px, py, e2, h2⟩ : ∃ x' y' e, Q.mulR x y f h = (x', y', e) := ⟨_, _, _, rfl⟩
  obtain ⟨xx, xy, e3, h3⟩ : ∃ x' y' e, Q.mulR a b f h = (x', y', e) := ⟨_, _, _, rfl⟩
  obtain ⟨yx, yy, e4, h4⟩ : ∃ x' y' e, Q.mulR c d f h = (x', y', e) := ⟨_, _, _, rfl⟩
  obtain ⟨zx, zy, e5, h5⟩ : ∃ x' y' e, Q.addR xx xy yx yy = (x', y', e) := ⟨_, _, _, rfl⟩
  have b1 := add_bounds h1
  have b2 := mul_bounds h2
  have b3 := mul_bounds h3
  have b4 := mul_bounds h4
  have c1 := fun w => add_any a b c d w ha hb hc hd
  have c2 := fun w => mul_any x y f h w b1.1 b1.2 hf hh
  have c3 := fun w => mul_any a b f h w ha hb hf hh
  have c4 := fun w => mul_any c d f h w hc hd hf hh
  have c5 := fun w => add_any xx xy yx yy w b3.1 b3.2 b4.1 b4.2
  have c6 := fun w => mul_any px py h f w b2.1 b2.2 hh hf
  rw [h1] at c1
  rw [h2] at c2
  rw [h3] at c3
  rw [h4] at c4
  rw [h5] at c5
  refine parts_at a b c d f h x y e1 px py e2 xx xy e3 yx yy e4 zx zy e5 w c1 c2 c3 c4 c5 ?_ ?_
  · rintro ⟨rfl, rfl, hf0, _⟩ w
    have := c6 w
    rw [parts_back h1 h2 hf0] at this
    exact this
  · by_cases g1 : e1 = 0
    · subst g1
      by_cases g2 : e2 = 0
      · subst g2
        by_cases g3 : e3 = 0
        · subst g3
          by_cases g4 : e4 = 0
          · subst g4
            by_cases g5 : e5 = 0
            · subst g5
              obtain ⟨s1, s2⟩ := parts_same h1 h2 h3 h4 h5
              by_cases g6 : f = 0
              · subst g6
                obtain ⟨s3, s4⟩ := parts_none h2
                right; right; right; right; right; left
                exact ⟨rfl, rfl, rfl, rfl, rfl, s1, s2, rfl, s3, s4⟩
              · right; right; right; right; right; right
                have := (mul_fine h2).2.1
                exact ⟨rfl, rfl, rfl, rfl, rfl, s1, s2, g6, by omega⟩
            · right; right; right; right; left; exact ⟨rfl, rfl, rfl, rfl, g5⟩
          · right; right; right; left; exact ⟨rfl, rfl, rfl, g4⟩
        · right; right; left; exact ⟨rfl, rfl, g3⟩
      · right; left; exact ⟨rfl, g2⟩
    · left; exact g1

end Go.Proofs.Ytfcegoibelokpaa
