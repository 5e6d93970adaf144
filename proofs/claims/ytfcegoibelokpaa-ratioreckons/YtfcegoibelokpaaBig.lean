/-
  Plain mathematics: numbers of 256 bits as rows of cells, and the reference's way to add, take away, double, compare and divide them, bit by bit.
-/
import Derived.Laws.World
namespace Go.Proofs.Ytfcegoibelokpaa.Big

abbrev W := BitVec 256

/-- the cells of the bits below k; false from there on -/
def lows (x : W) (k : Nat) : Array Value := Array.ofFn (n := 256) fun i => Value.bool (decide (i.val < k) && x.getLsbD i.val)
/-- the cells of the bits from k on; false below -/
def highs (x : W) (k : Nat) : Array Value := Array.ofFn (n := 256) fun i => Value.bool (decide (k ≤ i.val) && x.getLsbD i.val)
/-- all of them -/
def bigR (x : W) : Array Value := Array.ofFn (n := 256) fun i => Value.bool (x.getLsbD i.val)

theorem lows_size (x : W) (k : Nat) : (lows x k).size = 256 := by simp [lows]
theorem highs_size (x : W) (k : Nat) : (highs x k).size = 256 := by simp [highs]
theorem bigR_size (x : W) : (bigR x).size = 256 := by simp [bigR]

theorem lows_get (x : W) (k i : Nat) (h : i < 256) : (lows x k)[i]? = some (.bool (decide (i < k) && x.getLsbD i)) := by
  simp [lows, h]
theorem highs_get (x : W) (k i : Nat) (h : i < 256) : (highs x k)[i]? = some (.bool (decide (k ≤ i) && x.getLsbD i)) := by
  simp [highs, h]
theorem bigR_get (x : W) (i : Nat) (h : i < 256) : (bigR x)[i]? = some (.bool (x.getLsbD i)) := by
  simp [bigR, h]

theorem row_ext {c d : Array Value} (hc : c.size = 256) (hd : d.size = 256) (h : ∀ i, i < 256 → c[i]? = d[i]?) : c = d := by
  apply Array.ext_getElem?
  intro i
  rcases Nat.lt_or_ge i 256 with h' | h'
  · exact h i h'
  · rw [Array.getElem?_eq_none (by omega), Array.getElem?_eq_none (by omega)]

theorem lows_zero (x : W) : lows x 0 = bigR 0 := by
  refine row_ext (lows_size _ _) (bigR_size _) fun i h => ?_
  rw [lows_get _ _ _ h, bigR_get _ _ h]
  simp
theorem lows_all (x : W) : lows x 256 = bigR x := by
  refine row_ext (lows_size _ _) (bigR_size _) fun i h => ?_
  rw [lows_get _ _ _ h, bigR_get _ _ h]
  simp [h]
theorem highs_none (x : W) : highs x 256 = bigR 0 := by
  refine row_ext (highs_size _ _) (bigR_size _) fun i h => ?_
  rw [highs_get _ _ _ h, bigR_get _ _ h]
  simp; omega
theorem highs_all (x : W) : highs x 0 = bigR x := by
  refine row_ext (highs_size _ _) (bigR_size _) fun i h => ?_
  rw [highs_get _ _ _ h, bigR_get _ _ h]
  simp
theorem bigR_zero : bigR 0 = Array.replicate 256 (.bool false) := by
  refine row_ext (bigR_size _) (by simp) fun i h => ?_
  rw [bigR_get _ _ h]
  simp [h]

theorem lows_set (x : W) (k : Nat) (h : k < 256) : (lows x k).setIfInBounds k (.bool (x.getLsbD k)) = lows x (k + 1) := by
  refine row_ext (by rw [Array.size_setIfInBounds, lows_size]) (lows_size _ _) fun i hi => ?_
  rw [Array.getElem?_setIfInBounds, lows_size, lows_get _ _ _ hi, lows_get _ _ _ hi]
  by_cases e : k = i
  · subst e; simp [h]
  · rw [if_neg e]
    congr 2
    congr 1
    rw [decide_eq_decide]
    omega

/-! ### The sum -/

def carry (x y : W) (i : Nat) : Bool := decide (2 ^ i ≤ x.toNat % 2 ^ i + y.toNat % 2 ^ i)

theorem carry_zero (x y : W) : carry x y 0 = false := by simp [carry, Nat.mod_one]

theorem mod_succ (n i : Nat) : n % 2 ^ (i + 1) = n % 2 ^ i + (if n.testBit i then 2 ^ i else 0) := by
  rw [Nat.mod_pow_succ, Nat.testBit_eq_decide_div_mod_eq]
  have h2 : n / 2 ^ i % 2 < 2 := Nat.mod_lt _ (by decide)
  by_cases h : n / 2 ^ i % 2 = 1
  · simp [h]
  · have : n / 2 ^ i % 2 = 0 := by omega
    simp [this]

theorem carry_succ (x y : W) (i : Nat) : carry x y (i + 1) = (x.getLsbD i && y.getLsbD i || carry x y i && (x.getLsbD i || y.getLsbD i)) := by
  have hx := mod_succ x.toNat i
  have hy := mod_succ y.toNat i
  have lx : x.toNat % 2 ^ i < 2 ^ i := Nat.mod_lt _ (Nat.two_pow_pos i)
  have ly : y.toNat % 2 ^ i < 2 ^ i := Nat.mod_lt _ (Nat.two_pow_pos i)
  have bx : x.toNat.testBit i = x.getLsbD i := rfl
  have by' : y.toNat.testBit i = y.getLsbD i := rfl
  rw [bx] at hx
  rw [by'] at hy
  unfold carry
  rw [hx, hy, Nat.pow_succ, Bool.eq_iff_iff]
  cases x.getLsbD i <;> cases y.getLsbD i <;> simp <;> omega

theorem sum_bit (x y : W) (i : Nat) (h : i < 256) : (x + y).getLsbD i = ((x.getLsbD i != y.getLsbD i) != carry x y i) := by
  rw [BitVec.getLsbD_add h]
  have e : BitVec.carry i x y false = carry x y i := by simp [BitVec.carry, carry]
  rw [e]
  cases x.getLsbD i <;> cases y.getLsbD i <;> cases carry x y i <;> rfl

/-! ### The difference -/

def borrow (x y : W) (i : Nat) : Bool := decide (x.toNat % 2 ^ i < y.toNat % 2 ^ i)

theorem borrow_zero (x y : W) : borrow x y 0 = false := by simp [borrow, Nat.mod_one]

theorem borrow_succ (x y : W) (i : Nat) : borrow x y (i + 1) = (!x.getLsbD i && y.getLsbD i || borrow x y i && (x.getLsbD i == y.getLsbD i)) := by
  have hx := mod_succ x.toNat i
  have hy := mod_succ y.toNat i
  have lx : x.toNat % 2 ^ i < 2 ^ i := Nat.mod_lt _ (Nat.two_pow_pos i)
  have ly : y.toNat % 2 ^ i < 2 ^ i := Nat.mod_lt _ (Nat.two_pow_pos i)
  have bx : x.toNat.testBit i = x.getLsbD i := rfl
  have by' : y.toNat.testBit i = y.getLsbD i := rfl
  rw [bx] at hx
  rw [by'] at hy
  unfold borrow
  rw [hx, hy, Bool.eq_iff_iff]
  cases x.getLsbD i <;> cases y.getLsbD i <;> simp <;> omega

/-- the difference is what, added to y, gives x: its bits follow the borrows -/
theorem diff_bit (x y : W) (i : Nat) (h : i < 256) : (x - y).getLsbD i = ((x.getLsbD i != y.getLsbD i) != borrow x y i) := by
  have hs : (x - y) + y = x := BitVec.sub_add_cancel x y
  have h1 := sum_bit (x - y) y i h
  rw [hs] at h1
  have hc : carry (x - y) y i = borrow x y i := by
    unfold carry borrow
    have e : x.toNat % 2 ^ i = ((x - y).toNat % 2 ^ i + y.toNat % 2 ^ i) % 2 ^ i := by
      have : x.toNat = ((x - y).toNat + y.toNat) % 2 ^ 256 := by rw [← BitVec.toNat_add, hs]
      rw [this, Nat.mod_mod_of_dvd _ (Nat.pow_dvd_pow 2 (by omega)), Nat.add_mod]
    have l1 : (x - y).toNat % 2 ^ i < 2 ^ i := Nat.mod_lt _ (Nat.two_pow_pos i)
    have l2 : y.toNat % 2 ^ i < 2 ^ i := Nat.mod_lt _ (Nat.two_pow_pos i)
    rw [decide_eq_decide, e]
    generalize (x - y).toNat % 2 ^ i = p at *
    generalize y.toNat % 2 ^ i = q at *
    generalize 2 ^ i = m at *
    by_cases hm : m ≤ p + q
    · have e2 : (p + q) % m = p + q - m := by
        rw [Nat.mod_eq_sub_mod hm, Nat.mod_eq_of_lt (by omega)]
      rw [e2]
      omega
    · rw [Nat.mod_eq_of_lt (by omega)]
      omega
  rw [hc] at h1
  rw [h1]
  cases (x - y).getLsbD i <;> cases y.getLsbD i <;> cases borrow x y i <;> rfl

/-! ### Twice as much -/
theorem up_bit (x : W) (i : Nat) (h : i < 256) : (x <<< 1).getLsbD i = (decide (1 ≤ i) && x.getLsbD (i - 1)) := by
  rw [BitVec.getLsbD_shiftLeft]
  rcases Nat.eq_zero_or_pos i with rfl | h0
  · simp
  · have e1 : decide (i < 256) = true := by simp [h]
    have e3 : decide (1 ≤ i) = true := by simp; omega
    have e4 : decide (i < 1) = false := by simp; omega
    rw [e1, e3, e4]
    simp

/-! ### Compared from above -/

/-- alike from k on -/
def alike (x y : W) (k : Nat) : Prop := ∀ i, k ≤ i → i < 256 → x.getLsbD i = y.getLsbD i

theorem alike_eq {x y : W} (h : alike x y 0) : x = y := by
  apply BitVec.eq_of_getLsbD_eq
  intro i hi
  exact h i (Nat.zero_le _) hi

theorem alike_div {x y : W} {k : Nat} (h : alike x y k) : x.toNat / 2 ^ k = y.toNat / 2 ^ k := by
  apply Nat.eq_of_testBit_eq
  intro i
  rw [Nat.testBit_div_two_pow, Nat.testBit_div_two_pow]
  rcases Nat.lt_or_ge (i + k) 256 with h' | h'
  · exact h (i + k) (by omega) h'
  · have hx : x.toNat.testBit (i + k) = false := Nat.testBit_lt_two_pow (Nat.lt_of_lt_of_le x.isLt (Nat.pow_le_pow_right (by decide) h'))
    have hy : y.toNat.testBit (i + k) = false := Nat.testBit_lt_two_pow (Nat.lt_of_lt_of_le y.isLt (Nat.pow_le_pow_right (by decide) h'))
    rw [hx, hy]

theorem less_at {x y : W} {k : Nat} (h : alike x y (k + 1)) (hx : x.getLsbD k = false) (hy : y.getLsbD k = true) : x.toNat < y.toNat := by
  have hd := alike_div h
  have h1 := Nat.div_add_mod x.toNat (2 ^ (k + 1))
  have h2 := Nat.div_add_mod y.toNat (2 ^ (k + 1))
  have hx' : x.toNat.testBit k = false := hx
  have hy' : y.toNat.testBit k = true := hy
  have m1 := mod_succ x.toNat k
  have m2 := mod_succ y.toNat k
  rw [hx'] at m1
  rw [hy'] at m2
  have lx : x.toNat % 2 ^ k < 2 ^ k := Nat.mod_lt _ (Nat.two_pow_pos k)
  simp at m1 m2
  rw [← h1, ← h2, hd, m1, m2]
  omega

def cmp (x y : W) : Int := if x.toNat < y.toNat then -1 else if y.toNat < x.toNat then 1 else 0

theorem cmp_less {x y : W} {k : Nat} (h : alike x y (k + 1)) (hx : x.getLsbD k = false) (hy : y.getLsbD k = true) : cmp x y = -1 := by
  unfold cmp; rw [if_pos (less_at h hx hy)]
theorem cmp_more {x y : W} {k : Nat} (h : alike x y (k + 1)) (hx : x.getLsbD k = true) (hy : y.getLsbD k = false) : cmp x y = 1 := by
  have := less_at (x := y) (y := x) (fun i a b => (h i a b).symm) hy hx
  unfold cmp; rw [if_neg (by omega), if_pos this]
theorem cmp_same {x y : W} (h : alike x y 0) : cmp x y = 0 := by
  rw [alike_eq h]; simp [cmp]

end Go.Proofs.Ytfcegoibelokpaa.Big
