/-
  Plain mathematics of the reference's long division on 256 bits, from the highest bit down.
-/
import Derived.Test.YtfcegoibelokpaaBig
namespace Go.Proofs.Ytfcegoibelokpaa.Big

/-- what is left of a when k bits are still to be brought down -/
def rst (a b : W) (k : Nat) : Nat := a.toNat / 2 ^ k % b.toNat

theorem rst_lt {a b : W} (hb : 0 < b.toNat) (k : Nat) : rst a b k < b.toNat := Nat.mod_lt _ hb
theorem rst_top (a b : W) : rst a b 256 = 0 := by
  unfold rst; rw [Nat.div_eq_of_lt a.isLt, Nat.zero_mod]
theorem rst_end (a b : W) : rst a b 0 = a.toNat % b.toNat := by unfold rst; rw [Nat.pow_zero, Nat.div_one]

theorem div_step (n j : Nat) : n / 2 ^ j = 2 * (n / 2 ^ (j + 1)) + (if n.testBit j then 1 else 0) := by
  rw [Nat.pow_succ, ← Nat.div_div_eq_div_mul, Nat.testBit_eq_decide_div_mod_eq]
  generalize n / 2 ^ j = m
  by_cases h : m % 2 = 1
  · simp [h]; omega
  · simp [h]; omega

/-- the rest with the next bit brought down -/
def dwn (a b : W) (j : Nat) : Nat := 2 * rst a b (j + 1) + (if a.getLsbD j then 1 else 0)

theorem dwn_lt {a b : W} (hb : 0 < b.toNat) (j : Nat) : dwn a b j < 2 * b.toNat := by
  have := rst_lt (a := a) hb (j + 1)
  unfold dwn
  split <;> omega

theorem split_at (a b : W) (j : Nat) : a.toNat / 2 ^ j = b.toNat * (2 * (a.toNat / 2 ^ (j + 1) / b.toNat)) + dwn a b j := by
  have h := div_step a.toNat j
  have e : a.toNat.testBit j = a.getLsbD j := rfl
  rw [e] at h
  have d := Nat.div_add_mod (a.toNat / 2 ^ (j + 1)) b.toNat
  unfold dwn rst
  rw [h]
  generalize a.toNat / 2 ^ (j + 1) = m at *
  have : b.toNat * (2 * (m / b.toNat)) = 2 * (b.toNat * (m / b.toNat)) := by ac_rfl
  rw [this]
  omega

theorem rst_step {a b : W} (hb : 0 < b.toNat) (j : Nat) : rst a b j = if b.toNat ≤ dwn a b j then dwn a b j - b.toNat else dwn a b j := by
  have hl := dwn_lt (a := a) hb j
  have : rst a b j = dwn a b j % b.toNat := by
    show a.toNat / 2 ^ j % b.toNat = _
    rw [split_at a b j, Nat.mul_add_mod]
  rw [this]
  split
  · rename_i h
    rw [Nat.mod_eq_sub_mod h, Nat.mod_eq_of_lt (by omega)]
  · exact Nat.mod_eq_of_lt (by omega)

theorem quo_bit {a b : W} (hb : 0 < b.toNat) (j : Nat) : (a.toNat / b.toNat).testBit j = decide (b.toNat ≤ dwn a b j) := by
  have hl := dwn_lt (a := a) hb j
  rw [Nat.testBit_eq_decide_div_mod_eq, Nat.div_div_eq_div_mul, Nat.mul_comm b.toNat, ← Nat.div_div_eq_div_mul, split_at a b j, Nat.mul_add_div hb]
  rw [decide_eq_decide]
  by_cases h : b.toNat ≤ dwn a b j
  · have : dwn a b j / b.toNat = 1 := by rw [Nat.div_eq_sub_div hb h, Nat.div_eq_of_lt (by omega)]
    rw [this]; omega
  · have : dwn a b j / b.toNat = 0 := Nat.div_eq_of_lt (by omega)
    rw [this]; omega

theorem highs_set (x : W) (k : Nat) (h : k < 256) (hx : x.getLsbD k = true) : (highs x (k + 1)).setIfInBounds k (.bool true) = highs x k := by
  refine row_ext (by rw [Array.size_setIfInBounds, highs_size]) (highs_size _ _) fun i hi => ?_
  rw [Array.getElem?_setIfInBounds, highs_size, highs_get _ _ _ hi, highs_get _ _ _ hi]
  by_cases e : k = i
  · subst e; simp [h, hx]
  · rw [if_neg e]
    congr 2
    congr 1
    rw [decide_eq_decide]
    omega
theorem highs_skip (x : W) (k : Nat) (hx : x.getLsbD k = false) : highs x (k + 1) = highs x k := by
  refine row_ext (highs_size _ _) (highs_size _ _) fun i hi => ?_
  rw [highs_get _ _ _ hi, highs_get _ _ _ hi]
  by_cases e : k = i
  · subst e; simp [hx]
  · congr 2
    congr 1
    rw [decide_eq_decide]
    omega

end Go.Proofs.Ytfcegoibelokpaa.Big
