/-
  Plain mathematics: a number of 128 bits divided by one of 64, digit by digit of 32 bits, as the library does it.
-/
import Derived.Laws.World
namespace Go.Proofs.Ytfcegoibelokpaa.K

/-- the digit that is guessed is none too small -/
theorem guess {u d y1 y0 y q : Nat} (hy : y = y1 * 4294967296 + y0) (h1 : 0 < y1) (hd : d < 4294967296) (hq : q = (u * 4294967296 + d) / y) : q ≤ u / y1 := by
  rw [Nat.le_div_iff_mul_le h1]
  have h2 : q * y ≤ u * 4294967296 + d := by rw [hq]; exact Nat.div_mul_le_self _ _
  rw [hy, Nat.mul_add, ← Nat.mul_assoc] at h2
  have h3 : q * y1 * 4294967296 < (u + 1) * 4294967296 := by omega
  have := Nat.lt_of_mul_lt_mul_right h3
  omega

theorem guess_le {u y1 y0 y : Nat} (hy : y = y1 * 4294967296 + y0) (h0 : y0 < 4294967296) (h1 : 2147483648 ≤ y1) (hu : u < y) : u / y1 ≤ 4294967297 := by
  have : u / y1 < 4294967298 := by
    rw [Nat.div_lt_iff_lt_mul (by omega)]
    omega
  omega

theorem small {u d y q : Nat} (hu : u < y) (hd : d < 4294967296) (hq : q = (u * 4294967296 + d) / y) : q < 4294967296 := by
  rw [hq, Nat.div_lt_iff_lt_mul (by omega)]
  have : (u + 1) * 4294967296 ≤ y * 4294967296 := Nat.mul_le_mul_right _ hu
  rw [Nat.mul_comm 4294967296 y]
  omega

theorem too_great {u d y1 y0 y q g r : Nat} (hy : y = y1 * 4294967296 + y0) (hu : u < y) (hd : d < 4294967296) (hq : q = (u * 4294967296 + d) / y) (hg : u = g * y1 + r)
    (h : 4294967296 ≤ g ∨ 4294967296 * r + d < g * y0) : q < g := by
  rcases h with h | h
  · have := small hu hd hq
    omega
  · rw [hq, Nat.div_lt_iff_lt_mul (by omega), hg, hy, Nat.mul_add, ← Nat.mul_assoc]
    omega

theorem fine {u d y1 y0 y q g r : Nat} (hy : y = y1 * 4294967296 + y0) (hp : 0 < y) (hq : q = (u * 4294967296 + d) / y) (hg : u = g * y1 + r)
    (h : g * y0 ≤ 4294967296 * r + d) : g ≤ q := by
  rw [hq, Nat.le_div_iff_mul_le hp, hg, hy, Nat.mul_add, ← Nat.mul_assoc]
  omega

theorem fine_break {u d y1 y0 y q g r : Nat} (hy : y = y1 * 4294967296 + y0) (hp : 0 < y) (h0 : y0 < 4294967296) (hq : q = (u * 4294967296 + d) / y) (hg : u = g * y1 + r)
    (h1 : g ≤ 4294967296) (h2 : 4294967296 ≤ r) : g ≤ q := by
  refine fine hy hp hq hg ?_
  have a1 : g * y0 ≤ 4294967296 * 4294967295 := Nat.mul_le_mul h1 (by omega)
  have a2 : 4294967296 * 4294967296 ≤ 4294967296 * r := Nat.mul_le_mul_left _ h2
  omega

/-- both digits together -/
theorem both {u d1 d0 y : Nat} (hy : 0 < y) : ((u * 4294967296 + d1) / y) * 4294967296 + (((u * 4294967296 + d1) % y) * 4294967296 + d0) / y = (u * 18446744073709551616 + (d1 * 4294967296 + d0)) / y := by
  have h := Nat.div_add_mod (u * 4294967296 + d1) y
  have e : u * 18446744073709551616 + (d1 * 4294967296 + d0) = y * (((u * 4294967296 + d1) / y) * 4294967296) + (((u * 4294967296 + d1) % y) * 4294967296 + d0) := by
    generalize (u * 4294967296 + d1) / y = q at *
    generalize (u * 4294967296 + d1) % y = r at *
    rw [← Nat.mul_assoc]
    omega
  rw [e, Nat.mul_add_div hy]

theorem both_rem {u d1 d0 y : Nat} : (((u * 4294967296 + d1) % y) * 4294967296 + d0) % y = (u * 18446744073709551616 + (d1 * 4294967296 + d0)) % y := by
  have h := Nat.div_add_mod (u * 4294967296 + d1) y
  have e : u * 18446744073709551616 + (d1 * 4294967296 + d0) = y * (((u * 4294967296 + d1) / y) * 4294967296) + (((u * 4294967296 + d1) % y) * 4294967296 + d0) := by
    generalize (u * 4294967296 + d1) / y = q at *
    generalize (u * 4294967296 + d1) % y = r at *
    rw [← Nat.mul_assoc]
    omega
  rw [e, Nat.mul_add_mod]

/-- shifted both, the quotient is the same, and what is left is shifted -/
theorem shifted (x y s : Nat) : (x * 2 ^ s) / (y * 2 ^ s) = x / y ∧ (x * 2 ^ s) % (y * 2 ^ s) = x % y * 2 ^ s :=
  ⟨Nat.mul_div_mul_right _ _ (Nat.two_pow_pos s), Nat.mul_mod_mul_right _ _ _⟩

/-- the two words of a number that is shifted -/
theorem words {hi lo s : Nat} (hs : s ≤ 64) :
    (hi * 18446744073709551616 + lo) * 2 ^ s = (hi * 2 ^ s + lo / 2 ^ (64 - s)) * 18446744073709551616 + lo * 2 ^ s % 18446744073709551616 := by
  have e : 18446744073709551616 = 2 ^ (64 - s) * 2 ^ s := by rw [← Nat.pow_add, show 64 - s + s = 64 by omega]
  have h1 : lo * 2 ^ s = (lo / 2 ^ (64 - s)) * 18446744073709551616 + lo * 2 ^ s % 18446744073709551616 := by
    have h2 : lo * 2 ^ s % 18446744073709551616 = lo % 2 ^ (64 - s) * 2 ^ s := by
      rw [e, Nat.mul_mod_mul_right]
    rw [h2]
    have h3 := Nat.div_add_mod lo (2 ^ (64 - s))
    calc lo * 2 ^ s = (2 ^ (64 - s) * (lo / 2 ^ (64 - s)) + lo % 2 ^ (64 - s)) * 2 ^ s := by rw [h3]
      _ = 2 ^ (64 - s) * (lo / 2 ^ (64 - s)) * 2 ^ s + lo % 2 ^ (64 - s) * 2 ^ s := Nat.add_mul _ _ _
      _ = lo / 2 ^ (64 - s) * (2 ^ (64 - s) * 2 ^ s) + lo % 2 ^ (64 - s) * 2 ^ s := by
        congr 1
        ac_rfl
      _ = _ := by rw [← e]
  rw [Nat.add_mul, h1]
  generalize lo / 2 ^ (64 - s) = p
  generalize hr : lo * 2 ^ s % 18446744073709551616 = r
  have : hi * 18446744073709551616 * 2 ^ s = hi * 2 ^ s * 18446744073709551616 := by ac_rfl
  rw [this, Nat.add_mul]
  omega

end Go.Proofs.Ytfcegoibelokpaa.K
