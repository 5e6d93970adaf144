/-
  Plain mathematics of shares: the greatest of four parts.
-/
import Derived.Test.YtcgaekaollhmpaaGreatCWalkG
import Derived.Test.YtcgaekaollhmpaaGreatCFrac
namespace Go.Proofs.YtcgaekaollhmpaaGreat.Vs
open Go.RowKit

/-- the number at a place -/
def V.at (v : V) : Nat → Int
  | 0 => v.a
  | 1 => v.b
  | 2 => v.c
  | _ => v.d

/-- the greatest part of the first k places, as numerator and denominator -/
def fS (v all : V) : Nat → Nat × Nat
  | 0 => (0, 1)
  | k + 1 => if all.at k = 0 then fS v all k else if (fS v all k).1 * (all.at k).toNat < (v.at k).toNat * (fS v all k).2 then ((v.at k).toNat, (all.at k).toNat) else fS v all k

def shareR (v all : V) (wt : Int) : Nat × Nat × Nat :=
  if v.ok && all.ok then (if wt < 1 ∨ 1000 < wt then (0, 0, 2) else Q.newR (fS v all 4).1 ((fS v all 4).2 * wt.toNat)) else (0, 0, 4)

theorem at_ok {v : V} (h : v.ok = true) (k : Nat) : 0 ≤ v.at k ∧ v.at k ≤ 1099511627776 := by
  have := okV h
  unfold V.at
  split <;> omega

theorem fS_bound {v all : V} (hv : v.ok = true) (ha : all.ok = true) (k : Nat) : (fS v all k).1 ≤ 1099511627776 ∧ 0 < (fS v all k).2 ∧ (fS v all k).2 ≤ 1099511627776 := by
  induction k with
  | zero => simp [fS]
  | succ k ih =>
    have h1 := at_ok hv k
    have h2 := at_ok ha k
    simp only [fS]
    split
    · exact ih
    · split
      · simp only []; omega
      · exact ih

theorem fS_skip {v all : V} {k : Nat} (h : all.at k = 0) : fS v all (k + 1) = fS v all k := by simp only [fS]; rw [if_pos h]
theorem fS_take {v all : V} {k : Nat} (h : all.at k ≠ 0) (h2 : (fS v all k).1 * (all.at k).toNat < (v.at k).toNat * (fS v all k).2) : fS v all (k + 1) = ((v.at k).toNat, (all.at k).toNat) := by
  simp only [fS]; rw [if_neg h, if_pos h2]
theorem fS_leave {v all : V} {k : Nat} (h : all.at k ≠ 0) (h2 : ¬ (fS v all k).1 * (all.at k).toNat < (v.at k).toNat * (fS v all k).2) : fS v all (k + 1) = fS v all k := by
  simp only [fS]; rw [if_neg h, if_neg h2]

theorem fS_top {v all : V} (k : Nat) : ∀ i, i < k → all.at i ≠ 0 → 0 < (all.at i).toNat → (v.at i).toNat * (fS v all k).2 ≤ (fS v all k).1 * (all.at i).toNat := by
  induction k with
  | zero => intro i hi; omega
  | succ k ih =>
    intro i hi h0 hp
    by_cases h1 : all.at k = 0
    · rw [fS_skip h1]
      refine ih i ?_ h0 hp
      by_cases e : i = k
      · subst e; exact absurd h1 h0
      · omega
    · by_cases h2 : (fS v all k).1 * (all.at k).toNat < (v.at k).toNat * (fS v all k).2
      · rw [fS_take h1 h2]
        simp only []
        by_cases e : i = k
        · subst e; exact Nat.le_refl _
        · have h3 := ih i (by omega) h0 hp
          -- v_i d ≤ n a_i and n a_k < v_k d
          refine Nat.le_of_not_lt fun hlt => ?_
          generalize (fS v all k).1 = n at *
          generalize (fS v all k).2 = d at *
          generalize (v.at i).toNat = x at *
          generalize (all.at i).toNat = a at *
          generalize (v.at k).toNat = y at *
          generalize (all.at k).toNat = b at *
          have q1 : n * b * a < y * d * a := Nat.mul_lt_mul_of_pos_right h2 hp
          have q2 : x * d * b ≤ n * a * b := Nat.mul_le_mul_right b h3
          have q3 : y * a * d ≤ x * b * d := Nat.mul_le_mul_right d (Nat.le_of_lt hlt)
          have e1 : n * b * a = n * a * b := by ac_rfl
          have e2 : y * d * a = y * a * d := by ac_rfl
          have e3 : x * d * b = x * b * d := by ac_rfl
          omega
      · rw [fS_leave h1 h2]
        by_cases e : i = k
        · subst e; exact Nat.le_of_not_lt h2
        · exact ih i (by omega) h0 hp

theorem fS_hit (v all : V) (k : Nat) : fS v all k = (0, 1) ∨ ∃ i, i < k ∧ all.at i ≠ 0 ∧ fS v all k = ((v.at i).toNat, (all.at i).toNat) := by
  induction k with
  | zero => exact .inl rfl
  | succ k ih =>
    have keep : fS v all (k + 1) = fS v all k → fS v all (k + 1) = (0, 1) ∨ ∃ i, i < k + 1 ∧ all.at i ≠ 0 ∧ fS v all (k + 1) = ((v.at i).toNat, (all.at i).toNat) := by
      intro e
      rw [e]
      rcases ih with h | ⟨i, hi, h⟩
      · exact .inl h
      · exact .inr ⟨i, by omega, h⟩
    by_cases h1 : all.at k = 0
    · exact keep (fS_skip h1)
    · by_cases h2 : (fS v all k).1 * (all.at k).toNat < (v.at k).toNat * (fS v all k).2
      · exact .inr ⟨k, by omega, h1, fS_take h1 h2⟩
      · exact keep (fS_leave h1 h2)

/-- what takes more has no less a share -/
theorem fS_grows {v u all : V} (ha : all.ok = true) (h : ∀ i, (v.at i).toNat ≤ (u.at i).toNat) : (fS v all 4).1 * (fS u all 4).2 ≤ (fS u all 4).1 * (fS v all 4).2 := by
  rcases fS_hit v all 4 with e | ⟨i, hi, h0, e⟩
  · rw [e]; simp
  · rw [e]
    simp only []
    have hb := at_ok ha i
    have := fS_top (v := u) (all := all) 4 i hi h0 (by omega)
    exact Nat.le_trans (Nat.mul_le_mul_right _ (h i)) this

/-- fractions compared in their lowest form are compared as they are -/
theorem lt_low {x m n e : Nat} (hm : 0 < m) (he : 0 < e) : (n / n.gcd e) * (m / x.gcd m) < (x / x.gcd m) * (e / n.gcd e) ↔ n * m < x * e := by
  have g1 : 0 < n.gcd e := Nat.gcd_pos_of_pos_right _ he
  have g2 : 0 < x.gcd m := Nat.gcd_pos_of_pos_right _ hm
  have e1 : n / n.gcd e * n.gcd e = n := Nat.div_mul_cancel (Nat.gcd_dvd_left _ _)
  have e2 : e / n.gcd e * n.gcd e = e := Nat.div_mul_cancel (Nat.gcd_dvd_right _ _)
  have e3 : x / x.gcd m * x.gcd m = x := Nat.div_mul_cancel (Nat.gcd_dvd_left _ _)
  have e4 : m / x.gcd m * x.gcd m = m := Nat.div_mul_cancel (Nat.gcd_dvd_right _ _)
  generalize hg1 : n.gcd e = g at *
  generalize hg2 : x.gcd m = g' at *
  generalize n / g = N at *
  generalize e / g = E at *
  generalize x / g' = X at *
  generalize m / g' = M at *
  rw [← e1, ← e2, ← e3, ← e4]
  rw [show N * g * (M * g') = N * M * (g * g') by ac_rfl, show X * g' * (E * g) = X * E * (g * g') by ac_rfl]
  exact (Nat.mul_lt_mul_right (Nat.mul_pos g1 g2)).symm

theorem div_gcd_pos {n d : Nat} (h : 0 < d) : 0 < d / n.gcd d := Nat.div_pos (Nat.le_of_dvd h (Nat.gcd_dvd_right _ _)) (Nat.gcd_pos_of_pos_right _ h)
theorem div_lt {n g B : Nat} (h : n < B) : n / g < B := Nat.lt_of_le_of_lt (Nat.div_le_self _ _) h

end Go.Proofs.YtcgaekaollhmpaaGreat.Vs
