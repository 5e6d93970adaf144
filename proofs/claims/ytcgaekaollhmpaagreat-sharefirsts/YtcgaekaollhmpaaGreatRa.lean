/-
  Numbers of 256 bits: the reference's plus, up, Compare, Of, Times.
-/
import Derived.Test.YtcgaekaollhmpaaGreatQc
import Derived.Deep.WholeRow
import Derived.Laws.World

namespace Go.Proofs.YtcgaekaollhmpaaGreat.Big

abbrev W := BitVec 256

/-- the cells of the bits below k; false from there on -/
def lows (x : W) (k : Nat) : Array Value := Array.ofFn (n := 256) fun i => Value.bool (decide (i.val < k) && x.getLsbD i.val)
/-- the cells of the bits from k on; false below -/
def highs (x : W) (k : Nat) : Array Value := Array.ofFn (n := 256) fun i => Value.bool (decide (k ≤ i.val) && x.getLsbD i.val)
/-- all of them -/
def bigR (x : W) : Array Value := Array.ofFn (n := 256) fun i => Value.bool (x.getLsbD i.val)

theorem lows_size (x : W) (k : Nat) : (lows x k).size = 256 := by simp [lows]
theorem highs_size (x : W) (k : Nat) : (highs x k).size = 256 := by simp [highs]
theorem bigR_size (x : W) : (bigR x).size = 256 := by simp [bigR]

theorem lows_get (x : W) (k i : Nat) (h : i < 256) : (lows x k)[i]? = some (.bool (decide (i < k) && x.getLsbD i)) := by
  simp [lows, h]
theorem highs_get (x : W) (k i : Nat) (h : i < 256) : (highs x k)[i]? = some (.bool (decide (k ≤ i) && x.getLsbD i)) := by
  simp [highs, h]
theorem bigR_get (x : W) (i : Nat) (h : i < 256) : (bigR x)[i]? = some (.bool (x.getLsbD i)) := by
  simp [bigR, h]

theorem row_ext {c d : Array Value} (hc : c.size = 256) (hd : d.size = 256) (h : ∀ i, i < 256 → c[i]? = d[i]?) : c = d := by
  apply Array.ext_getElem?
  intro i
  rcases Nat.lt_or_ge i 256 with h' | h'
  · exact h i h'
  · rw [Array.getElem?_eq_none (by omega), Array.getElem?_eq_none (by omega)]

theorem lows_zero (x : W) : lows x 0 = bigR 0 := by
  refine row_ext (lows_size _ _) (bigR_size _) fun i h => ?_
  rw [lows_get _ _ _ h, bigR_get _ _ h]
  simp
theorem lows_all (x : W) : lows x 256 = bigR x := by
  refine row_ext (lows_size _ _) (bigR_size _) fun i h => ?_
  rw [lows_get _ _ _ h, bigR_get _ _ h]
  simp [h]
theorem highs_none (x : W) : highs x 256 = bigR 0 := by
  refine row_ext (highs_size _ _) (bigR_size _) fun i h => ?_
  rw [highs_get _ _ _ h, bigR_get _ _ h]
  simp; omega
theorem highs_all (x : W) : highs x 0 = bigR x := by
  refine row_ext (highs_size _ _) (bigR_size _) fun i h => ?_
  rw [highs_get _ _ _ h, bigR_get _ _ h]
  simp
theorem bigR_zero : bigR 0 = Array.replicate 256 (.bool false) := by
  refine row_ext (bigR_size _) (by simp) fun i h => ?_
  rw [bigR_get _ _ h]
  simp [h]

theorem lows_set (x : W) (k : Nat) (h : k < 256) : (lows x k).setIfInBounds k (.bool (x.getLsbD k)) = lows x (k + 1) := by
  refine row_ext (by rw [Array.size_setIfInBounds, lows_size]) (lows_size _ _) fun i hi => ?_
  rw [Array.getElem?_setIfInBounds, lows_size, lows_get _ _ _ hi, lows_get _ _ _ hi]
  by_cases e : k = i
  · subst e; simp [h]
  · rw [if_neg e]
    congr 2
    congr 1
    rw [decide_eq_decide]
    omega

/-! ### The sum -/

def carry (x y : W) (i : Nat) : Bool := decide (2 ^ i ≤ x.toNat % 2 ^ i + y.toNat % 2 ^ i)

theorem carry_zero (x y : W) : carry x y 0 = false := by simp [carry, Nat.mod_one]

theorem mod_succ (n i : Nat) : n % 2 ^ (i + 1) = n % 2 ^ i + (if n.testBit i then 2 ^ i else 0) := by
  rw [Nat.mod_pow_succ, Nat.testBit_eq_decide_div_mod_eq]
  have h2 : n / 2 ^ i % 2 < 2 := Nat.mod_lt _ (by decide)
  by_cases h : n / 2 ^ i % 2 = 1
  · simp [h]
  · have : n / 2 ^ i % 2 = 0 := by omega
    simp [this]

theorem carry_succ (x y : W) (i : Nat) : carry x y (i + 1) = (x.getLsbD i && y.getLsbD i || carry x y i && (x.getLsbD i || y.getLsbD i)) := by
  have hx := mod_succ x.toNat i
  have hy := mod_succ y.toNat i
  have lx : x.toNat % 2 ^ i < 2 ^ i := Nat.mod_lt _ (Nat.two_pow_pos i)
  have ly : y.toNat % 2 ^ i < 2 ^ i := Nat.mod_lt _ (Nat.two_pow_pos i)
  have bx : x.toNat.testBit i = x.getLsbD i := rfl
  have by' : y.toNat.testBit i = y.getLsbD i := rfl
  rw [bx] at hx
  rw [by'] at hy
  unfold carry
  rw [hx, hy, Nat.pow_succ, Bool.eq_iff_iff]
  cases x.getLsbD i <;> cases y.getLsbD i <;> simp <;> omega

theorem sum_bit (x y : W) (i : Nat) (h : i < 256) : (x + y).getLsbD i = ((x.getLsbD i != y.getLsbD i) != carry x y i) := by
  rw [BitVec.getLsbD_add h]
  have e : BitVec.carry i x y false = carry x y i := by simp [BitVec.carry, carry]
  rw [e]
  cases x.getLsbD i <;> cases y.getLsbD i <;> cases carry x y i <;> rfl

/-! ### The difference -/

def borrow (x y : W) (i : Nat) : Bool := decide (x.toNat % 2 ^ i < y.toNat % 2 ^ i)

theorem borrow_zero (x y : W) : borrow x y 0 = false := by simp [borrow, Nat.mod_one]

theorem borrow_succ (x y : W) (i : Nat) : borrow x y (i + 1) = (!x.getLsbD i && y.getLsbD i || borrow x y i && (x.getLsbD i == y.getLsbD i)) := by
  have hx := mod_succ x.toNat i
  have hy := mod_succ y.toNat i
  have lx : x.toNat % 2 ^ i < 2 ^ i := Nat.mod_lt _ (Nat.two_pow_pos i)
  have ly : y.toNat % 2 ^ i < 2 ^ i := Nat.mod_lt _ (Nat.two_pow_pos i)
  have bx : x.toNat.testBit i = x.getLsbD i := rfl
  have by' : y.toNat.testBit i = y.getLsbD i := rfl
  rw [bx] at hx
  rw [by'] at hy
  unfold borrow
  rw [hx, hy, Bool.eq_iff_iff]
  cases x.getLsbD i <;> cases y.getLsbD i <;> simp <;> omega

/-- the difference is what, added to y, gives x: its bits follow the borrows -/
theorem diff_bit (x y : W) (i : Nat) (h : i < 256) : (x - y).getLsbD i = ((x.getLsbD i != y.getLsbD i) != borrow x y i) := by
  have hs : (x - y) + y = x := BitVec.sub_add_cancel x y
  have h1 := sum_bit (x - y) y i h
  rw [hs] at h1
  have hc : carry (x - y) y i = borrow x y i := by
    unfold carry borrow
    have e : x.toNat % 2 ^ i = ((x - y).toNat % 2 ^ i + y.toNat % 2 ^ i) % 2 ^ i := by
      have : x.toNat = ((x - y).toNat + y.toNat) % 2 ^ 256 := by rw [← BitVec.toNat_add, hs]
      rw [this, Nat.mod_mod_of_dvd _ (Nat.pow_dvd_pow 2 (by omega)), Nat.add_mod]
    have l1 : (x - y).toNat % 2 ^ i < 2 ^ i := Nat.mod_lt _ (Nat.two_pow_pos i)
    have l2 : y.toNat % 2 ^ i < 2 ^ i := Nat.mod_lt _ (Nat.two_pow_pos i)
    rw [decide_eq_decide, e]
    generalize (x - y).toNat % 2 ^ i = p at *
    generalize y.toNat % 2 ^ i = q at *
    generalize 2 ^ i = m at *
    by_cases hm : m ≤ p + q
    · have e2 : (p + q) % m = p + q - m := by
        rw [Nat.mod_eq_sub_mod hm, Nat.mod_eq_of_lt (by omega)]
      rw [e2]
      omega
    · rw [Nat.mod_eq_of_lt (by omega)]
      omega
  rw [hc] at h1
  rw [h1]
  cases (x - y).getLsbD i <;> cases y.getLsbD i <;> cases borrow x y i <;> rfl

/-! ### Twice as much -/
theorem up_bit (x : W) (i : Nat) (h : i < 256) : (x <<< 1).getLsbD i = (decide (1 ≤ i) && x.getLsbD (i - 1)) := by
  rw [BitVec.getLsbD_shiftLeft]
  rcases Nat.eq_zero_or_pos i with rfl | h0
  · simp
  · have e1 : decide (i < 256) = true := by simp [h]
    have e3 : decide (1 ≤ i) = true := by simp; omega
    have e4 : decide (i < 1) = false := by simp; omega
    rw [e1, e3, e4]
    simp

/-! ### Compared from above -/

/-- alike from k on -/
def alike (x y : W) (k : Nat) : Prop := ∀ i, k ≤ i → i < 256 → x.getLsbD i = y.getLsbD i

theorem alike_eq {x y : W} (h : alike x y 0) : x = y := by
  apply BitVec.eq_of_getLsbD_eq
  intro i hi
  exact h i (Nat.zero_le _) hi

theorem alike_div {x y : W} {k : Nat} (h : alike x y k) : x.toNat / 2 ^ k = y.toNat / 2 ^ k := by
  apply Nat.eq_of_testBit_eq
  intro i
  rw [Nat.testBit_div_two_pow, Nat.testBit_div_two_pow]
  rcases Nat.lt_or_ge (i + k) 256 with h' | h'
  · exact h (i + k) (by omega) h'
  · have hx : x.toNat.testBit (i + k) = false := Nat.testBit_lt_two_pow (Nat.lt_of_lt_of_le x.isLt (Nat.pow_le_pow_right (by decide) h'))
    have hy : y.toNat.testBit (i + k) = false := Nat.testBit_lt_two_pow (Nat.lt_of_lt_of_le y.isLt (Nat.pow_le_pow_right (by decide) h'))
    rw [hx, hy]

theorem less_at {x y : W} {k : Nat} (h : alike x y (k + 1)) (hx : x.getLsbD k = false) (hy : y.getLsbD k = true) : x.toNat < y.toNat := by
  have hd := alike_div h
  have h1 := Nat.div_add_mod x.toNat (2 ^ (k + 1))
  have h2 := Nat.div_add_mod y.toNat (2 ^ (k + 1))
  have hx' : x.toNat.testBit k = false := hx
  have hy' : y.toNat.testBit k = true := hy
  have m1 := mod_succ x.toNat k
  have m2 := mod_succ y.toNat k
  rw [hx'] at m1
  rw [hy'] at m2
  have lx : x.toNat % 2 ^ k < 2 ^ k := Nat.mod_lt _ (Nat.two_pow_pos k)
  simp at m1 m2
  rw [← h1, ← h2, hd, m1, m2]
  omega

def cmp (x y : W) : Int := if x.toNat < y.toNat then -1 else if y.toNat < x.toNat then 1 else 0

theorem cmp_less {x y : W} {k : Nat} (h : alike x y (k + 1)) (hx : x.getLsbD k = false) (hy : y.getLsbD k = true) : cmp x y = -1 := by
  unfold cmp; rw [if_pos (less_at h hx hy)]
theorem cmp_more {x y : W} {k : Nat} (h : alike x y (k + 1)) (hx : x.getLsbD k = true) (hy : y.getLsbD k = false) : cmp x y = 1 := by
  have := less_at (x := y) (y := x) (fun i a b => (h i a b).symm) hy hx
  unfold cmp; rw [if_neg (by omega), if_pos this]
theorem cmp_same {x y : W} (h : alike x y 0) : cmp x y = 0 := by
  rw [alike_eq h]; simp [cmp]

end Go.Proofs.YtcgaekaollhmpaaGreat.Big


namespace Go.Proofs.YtcgaekaollhmpaaGreat
open Go.RowKit Big

theorem info48 : (Tryz.prog.info? 132).map (fun i => (i.zero, i.size)) = some (some (.agg (Array.replicate 256 (.bool false))), 256) := by kernel_rfl
theorem zero48 : ∀ w, (zeroValue 132).run Tryz.prog w = .ok (.agg (bigR 0)) w := by
  rw [bigR_zero]; exact (zero_of_info info48).1
theorem size48 (x : W) : (Tryz.prog.info? 132).map (·.size) = some (bigR x).size := by rw [bigR_size]; exact (zero_of_info info48).2
theorem one48 (x : W) : (bigR x).all (·.oneCell') = true := by
  rw [Array.all_eq_true]
  intro i hi
  rw [bigR_size] at hi
  have := bigR_get x i hi
  rw [Array.getElem?_eq_some_iff] at this
  obtain ⟨h, e⟩ := this
  rw [e]
  rfl

/-- a block that holds a row of 256 cells -/
def Row (w : World) (g : Nat) (c : Array Value) : Prop := w.heap[g]? = some (.cells c 132 (0, 0))

theorem Row.cell {w : World} {g : Nat} {c : Array Value} (h : Row w g c) (k : Nat) : w.cell? ⟨g, k, none⟩ = c[k]? := Lib.cell_of_heap h k
theorem Row.frozen {w : World} {g : Nat} {c : Array Value} (h : Row w g c) (k : Nat) : w.frozen? ⟨g, k, none⟩ = false := Lib.frozen_of_heap h k
theorem Row.drewN {w : World} {g : Nat} {c : Array Value} (h : Row w g c) (n : Nat) : Row (w.drewN n) g c := h
theorem Row.set {w : World} {g : Nat} {c : Array Value} (h : Row w g c) (k : Nat) (v : Value) : Row (w.setCell ⟨g, k, none⟩ v) g (c.setIfInBounds k v) := heap_setCell_same w g k c 132 v h
theorem Row.other {w : World} {g g' : Nat} {c : Array Value} (h : Row w g c) (k : Nat) (v : Value) (hne : g ≠ g') : Row (w.setCell ⟨g', k, none⟩ v) g c := (Below.heap_setCell _ _ _ _ hne).trans h
theorem Row.lt {w : World} {g : Nat} {c : Array Value} (h : Row w g c) : g < w.heap.size := (Array.getElem?_eq_some_iff.1 h).1
theorem Row.later {w w' : World} {g B : Nat} {c : Array Value} (h : Row w g c) (hb : Below B w w') (hg : g < B) : Row w' g c := (hb.block g hg).trans h
theorem Row.alloc {w : World} {g : Nat} {c : Array Value} (h : Row w g c) (o : Obj) : Row (w.alloc o) g c := (Below.heap_alloc w o g h.lt).trans h
theorem row_new (w : World) (c : Array Value) (n : Nat) (hn : w.heap.size = n) : Row (w.alloc (.cells c 132)) n c := by subst hn; exact Go.heap_alloc_new w _
theorem Row.setRow {w : World} {g : Nat} {c c' : Array Value} (h : Row w g c) : Row (w.setRow g c') g c' := setRow_heap w g c _ 132 _ h
theorem below_setRow {B : Nat} {a w : World} {g : Nat} {c : Array Value} (h : Below B a w) (hg : B ≤ g) : Below B a (w.setRow g c) :=
  ⟨h.os, h.tape, h.output, by simpa using h.size, fun k hk => (setRow_other w g k _ (by omega)).trans (h.block k hk)⟩

set_option maxHeartbeats 1000000 in
set_option maxRecDepth 100000 in
theorem plus_any (x y : W) (w : World) :
    Calls Tryz.prog 103 #[.agg (bigR x), .agg (bigR y)] w fun e w' => e = .returned (.agg (bigR (x + y))) ∧ Below w.heap.size w w' := by
  have hz := zero48
  go_enter Tryz.func103, Tryz.ntmps103
  go_wp2_with fail
  go_loopw [6, 7] (fun c iv wr => ∃ k : Nat, iv = .int .i64 k ∧ k ≤ 256 ∧ c = .bool (carry x y k) ∧ Row wr w.heap.size (bigR x) ∧ Row wr (w.heap.size + 1) (bigR y) ∧ Row wr (w.heap.size + 1 + 1) (bigR 0) ∧ Row wr (w.heap.size + 1 + 1 + 1) (lows (x + y) k) ∧ Below w.heap.size w wr) (fun _ iv _ => 256 - (intOf iv).toNat)
  case atStart =>
    refine ⟨0, rfl, by omega, by rw [carry_zero], ?_, ?_, ?_, ?_, ?_⟩
    · exact (((row_new w _ _ rfl).alloc _).alloc _).alloc _
    · exact ((row_new _ _ _ (by simp)).alloc _).alloc _
    · exact (row_new _ _ _ (by simp)).alloc _
    · rw [lows_zero]; exact row_new _ _ _ (by simp)
    · exact ((((Below.refl _ w).alloc (Nat.le_refl _) _).alloc (by simp) _).alloc (by simp; omega) _).alloc (by simp; omega) _
  case round =>
    obtain ⟨k, rfl, hk, rfl, r0, r1, r2, r3, hb⟩ := hrel
    by_cases hlt : k < 256
    · have c0 := r0.cell k
      have c1 := r1.cell k
      have c3 := r3.cell k
      rw [bigR_get _ _ hlt] at c0 c1
      rw [lows_get _ _ _ hlt] at c3
      have f3 := r3.frozen k
      have hki : (k : Int) < 256 := by omega
      have HS : Hid ((x + y).getLsbD k = ((x.getLsbD k != y.getLsbD k) != carry x y k)) := sum_bit x y k hlt
      have HC : Hid (carry x y (k + 1) = (x.getLsbD k && y.getLsbD k || carry x y k && (x.getLsbD k || y.getLsbD k))) := carry_succ x y k
      have HL : Hid ((lows (x + y) k).setIfInBounds k (.bool ((x + y).getLsbD k)) = lows (x + y) (k + 1)) := lows_set (x + y) k hlt
      have HR : Hid (Row wr w.heap.size (bigR x) ∧ Row wr (w.heap.size + 1) (bigR y) ∧ Row wr (w.heap.size + 1 + 1) (bigR 0) ∧ Row wr (w.heap.size + 1 + 1 + 1) (lows (x + y) k)) := ⟨r0, r1, r2, r3⟩
      have HB : Hid (Below w.heap.size w wr) := hb
      clear r0 r1 r2 r3 hb
      generalize x.getLsbD k = p at c0 HS HC
      generalize y.getLsbD k = q at c1 HS HC
      generalize carry x y k = r at HS HC
      generalize (x + y).getLsbD k = s at c3 HS HL
      have hs := HS.out
      subst hs
      clear hz HS
      cases p <;> cases q <;> cases r
      all_goals
        go_wp2_with fail
        go_quiet (fail)
        go_wp2_with fail
      all_goals
        refine ⟨⟨k + 1, by simp, by omega, by rw [HC.out]; rfl, ?_, ?_, ?_, ?_, ?_⟩, ?_⟩
        · exact (HR.out.1.drewN _).other _ _ (by omega)
        · exact (HR.out.2.1.drewN _).other _ _ (by omega)
        · exact (HR.out.2.2.1.drewN _).other _ _ (by omega)
        · rw [← HL.out]; exact (HR.out.2.2.2.drewN _).set k _
        · exact (below_drewN HB.out _).setCell (by simp; omega) _
        · simp only [intOf]; omega
    · have hk256 : k = 256 := by omega
      subst hk256
      rw [lows_all] at r3
      have HB : Hid (Below w.heap.size w wr) := hb
      clear r0 r1 hz hb
      go_wp2_with (first | refine wpList_load_row rfl 132 _ rfl (w.heap.size + 1 + 1 + 1) rfl 132 (bigR (x + y)) (0, 0) _ r3 Tryz.underlying132 rfl (size48 _) ?_ | refine wpList_store_row rfl 132 _ _ rfl (w.heap.size + 1 + 1) (bigR (x + y)) rfl rfl 132 (bigR 0) r2 (size48 _) (by rw [bigR_size, bigR_size]) (one48 _) ?_)
      refine bodyPost_ret (results_cell_row Tryz.results103 _ _ (w.heap.size + 1 + 1) 132 (bigR (x + y)) (0, 0) _ rfl r2.setRow Tryz.underlying132 rfl (size48 _)) rfl ?_
      exact ⟨rfl, below_setRow HB.out (by omega)⟩

end Go.Proofs.YtcgaekaollhmpaaGreat


namespace Go.Proofs.YtcgaekaollhmpaaGreat
open Go.RowKit Big

set_option maxHeartbeats 1000000 in
set_option maxRecDepth 100000 in
theorem up_any (x : W) (w : World) :
    Calls Tryz.prog 104 #[.agg (bigR x)] w fun e w' => e = .returned (.agg (bigR (x <<< 1))) ∧ Below w.heap.size w w' := by
  have hz := zero48
  go_enter Tryz.func104, Tryz.ntmps104
  go_wp2_with fail
  go_loopw [4] (fun iv wr => ∃ k : Nat, iv = .int .i64 k ∧ 1 ≤ k ∧ k ≤ 256 ∧ Row wr w.heap.size (bigR x) ∧ Row wr (w.heap.size + 1) (bigR 0) ∧ Row wr (w.heap.size + 1 + 1) (lows (x <<< 1) k) ∧ Below w.heap.size w wr) (fun iv _ => 256 - (intOf iv).toNat)
  case atStart =>
    refine ⟨1, rfl, by omega, by omega, ?_, ?_, ?_, ?_⟩
    · exact ((row_new w _ _ rfl).alloc _).alloc _
    · exact (row_new _ _ _ (by simp)).alloc _
    · rw [← lows_set _ 0 (by omega), up_bit _ _ (by omega), lows_zero]
      have h : (bigR 0).setIfInBounds 0 (.bool (decide (1 ≤ 0) && x.getLsbD (0 - 1))) = bigR 0 := by
        refine row_ext (by rw [Array.size_setIfInBounds, bigR_size]) (bigR_size _) fun i hi => ?_
        rw [Array.getElem?_setIfInBounds, bigR_size, bigR_get _ _ hi]
        by_cases e : 0 = i
        · subst e; simp
        · rw [if_neg e]
      rw [h]
      exact row_new _ _ _ (by simp)
    · exact (((Below.refl _ w).alloc (Nat.le_refl _) _).alloc (by simp) _).alloc (by simp; omega) _
  case round =>
    obtain ⟨k, rfl, hk1, hk, r0, r1, r2, hb⟩ := hrel
    have HB : Hid (Below w.heap.size w wr) := hb
    clear hb
    by_cases hlt : k < 256
    · have c0 := r0.cell (k - 1)
      have c2 := r2.cell k
      rw [bigR_get _ _ (by omega)] at c0
      rw [lows_get _ _ _ hlt] at c2
      have f2 := r2.frozen k
      have hki : (k : Int) < 256 := by omega
      have hkj : ((k : Int) - 1).toNat = k - 1 := by omega
      have hk0 : (1 : Int) ≤ (k : Int) := by omega
      have HL : Hid ((lows (x <<< 1) k).setIfInBounds k (.bool (x.getLsbD (k - 1))) = lows (x <<< 1) (k + 1)) := by
        have := lows_set (x <<< 1) k hlt
        rw [up_bit _ _ hlt, show decide (1 ≤ k) = true from decide_eq_true hk1, Bool.true_and] at this
        exact this
      have HR : Hid (Row wr w.heap.size (bigR x) ∧ Row wr (w.heap.size + 1) (bigR 0) ∧ Row wr (w.heap.size + 1 + 1) (lows (x <<< 1) k)) := ⟨r0, r1, r2⟩
      clear r0 r1 r2 hz
      generalize x.getLsbD (k - 1) = p at c0 HL
      generalize (decide (k < k) && (x <<< 1).getLsbD k) = q at c2
      go_wp2_with fail
      refine ⟨⟨k + 1, by simp, by omega, by omega, ?_, ?_, ?_, ?_⟩, ?_⟩
      · exact HR.out.1.other _ _ (by omega)
      · exact HR.out.2.1.other _ _ (by omega)
      · rw [← HL.out]; exact HR.out.2.2.set k _
      · exact HB.out.setCell (by simp; omega) _
      · simp only [intOf]; omega
    · have hk256 : k = 256 := by omega
      subst hk256
      rw [lows_all] at r2
      clear r0 hz
      go_wp2_with (first | refine wpList_load_row rfl 132 _ rfl (w.heap.size + 1 + 1) rfl 132 (bigR (x <<< 1)) (0, 0) _ r2 Tryz.underlying132 rfl (size48 _) ?_ | refine wpList_store_row rfl 132 _ _ rfl (w.heap.size + 1) (bigR (x <<< 1)) rfl rfl 132 (bigR 0) r1 (size48 _) (by rw [bigR_size, bigR_size]) (one48 _) ?_)
      refine bodyPost_ret (results_cell_row Tryz.results104 _ _ (w.heap.size + 1) 132 (bigR (x <<< 1)) (0, 0) _ rfl r1.setRow Tryz.underlying132 rfl (size48 _)) rfl ?_
      exact ⟨rfl, below_setRow HB.out (by omega)⟩

set_option maxHeartbeats 1000000 in
set_option maxRecDepth 100000 in
theorem bigcmp_any (x y : W) (w : World) :
    Calls Tryz.prog 79 #[.agg (bigR x), .agg (bigR y)] w fun e w' => e = .returned (.int .i64 (Big.cmp x y)) ∧ Below w.heap.size w w' := by
  go_enter Tryz.func79, Tryz.ntmps79
  go_wp2_with fail
  go_loopw [5] (fun iv wr => ∃ k : Nat, iv = .int .i64 ((k : Int) - 1) ∧ k ≤ 256 ∧ alike x y k ∧ Row wr w.heap.size (bigR x) ∧ Row wr (w.heap.size + 1) (bigR y) ∧ Below w.heap.size w wr) (fun iv _ => (intOf iv + 1).toNat)
  case atStart =>
    refine ⟨256, rfl, by omega, fun i h1 h2 => by omega, ?_, ?_, ?_⟩
    · exact (row_new w _ _ rfl).alloc _
    · exact row_new _ _ _ (by simp)
    · exact ((Below.refl _ w).alloc (Nat.le_refl _) _).alloc (by simp) _
  case round =>
    obtain ⟨k, rfl, hk, hal, r0, r1, hb⟩ := hrel
    have HB : Hid (Below w.heap.size w wr) := hb
    clear hb
    by_cases h0 : k = 0
    · subst h0
      have HC : Hid (Big.cmp x y = 0) := cmp_same hal
      clear r0 r1 hal
      go_wp2_with fail
      go_ret
      exact ⟨by rw [HC.out]; rfl, HB.out⟩
    · obtain ⟨j, rfl⟩ : ∃ j, k = j + 1 := ⟨k - 1, by omega⟩
      have c0 := r0.cell j
      have c1 := r1.cell j
      rw [bigR_get _ _ (by omega)] at c0 c1
      have hji : (j : Int) < 256 := by omega
      have ej : ((j + 1 : Nat) : Int) - 1 = (j : Int) := by omega
      rw [ej]
      have HR : Hid (Row wr w.heap.size (bigR x) ∧ Row wr (w.heap.size + 1) (bigR y)) := ⟨r0, r1⟩
      have HA : Hid (alike x y (j + 1)) := hal
      clear r0 r1 hal
      cases hp : x.getLsbD j <;> cases hq : y.getLsbD j
      all_goals rw [hp] at c0
      all_goals rw [hq] at c1
      all_goals (go_wp2_with fail; go_quiet (fail); go_wp2_with fail)
      · refine ⟨⟨j, rfl, by omega, fun i h1 h2 => ?_, HR.out.1.drewN _, HR.out.2.drewN _, below_drewN HB.out _⟩, ?_⟩
        · by_cases e : i = j
          · subst e; rw [hp, hq]
          · exact HA.out i (by omega) h2
        · simp only [intOf]; omega
      · go_ret
        exact ⟨by rw [cmp_less HA.out hp hq]; rfl, below_drewN HB.out _⟩
      · go_ret
        exact ⟨by rw [cmp_more HA.out hp hq]; rfl, below_drewN HB.out _⟩
      · refine ⟨⟨j, rfl, by omega, fun i h1 h2 => ?_, HR.out.1.drewN _, HR.out.2.drewN _, below_drewN HB.out _⟩, ?_⟩
        · by_cases e : i = j
          · subst e; rw [hp, hq]
          · exact HA.out i (by omega) h2
        · simp only [intOf]; omega

end Go.Proofs.YtcgaekaollhmpaaGreat


namespace Go.Proofs.YtcgaekaollhmpaaGreat
open Go.RowKit Big

theorem bit_word (n k : Nat) (hn : n < 18446744073709551616) : (bits .and .u64 ((n : Int) / 2 ^ k) 1 == 1) = n.testBit k := by
  have e : (n : Int) / 2 ^ k = ((n / 2 ^ k : Nat) : Int) := by simp
  have h := bits_and_u64_nat (n / 2 ^ k) 1 (Nat.lt_of_le_of_lt (Nat.div_le_self _ _) hn) (by omega)
  rw [e, show (1 : Int) = ((1 : Nat) : Int) from rfl, h, Nat.testBit_eq_decide_div_mod_eq, Nat.and_one_is_mod, Bool.eq_iff_iff]
  simp
  omega
theorem bit_of (n k : Nat) (hk : k < 256) : (BitVec.ofNat 256 n).getLsbD k = n.testBit k := by
  rw [BitVec.getLsbD_ofNat]; simp [hk]

set_option maxHeartbeats 1000000 in
set_option maxRecDepth 100000 in
theorem of_any (n : Nat) (w : World) (hn : n < 18446744073709551616) :
    Calls Tryz.prog 80 #[.int .u64 n] w fun e w' => e = .returned (.agg (bigR (BitVec.ofNat 256 n))) ∧ Below w.heap.size w w' := by
  have hz := zero48
  go_enter Tryz.func80, Tryz.ntmps80
  go_wp2_with fail
  go_loopw [4] (fun iv wr => ∃ k : Nat, iv = .int .i64 k ∧ k ≤ 64 ∧ Row wr w.heap.size (bigR 0) ∧ Row wr (w.heap.size + 1) (lows (BitVec.ofNat 256 n) k) ∧ Below w.heap.size w wr) (fun iv _ => 64 - (intOf iv).toNat)
  case atStart =>
    refine ⟨0, rfl, by omega, ?_, ?_, ?_⟩
    · exact (row_new w _ _ rfl).alloc _
    · rw [lows_zero]; exact row_new _ _ _ (by simp)
    · exact ((Below.refl _ w).alloc (Nat.le_refl _) _).alloc (by simp) _
  case round =>
    obtain ⟨k, rfl, hk, r0, r1, hb⟩ := hrel
    have HB : Hid (Below w.heap.size w wr) := hb
    clear hb
    by_cases hlt : k < 64
    · have c1 := r1.cell k
      rw [lows_get _ _ _ (by omega)] at c1
      have f1 := r1.frozen k
      have hki : (k : Int) < 64 := by omega
      have HL : Hid ((lows (BitVec.ofNat 256 n) k).setIfInBounds k (.bool ((BitVec.ofNat 256 n).getLsbD k)) = lows (BitVec.ofNat 256 n) (k + 1)) := lows_set _ k (by omega)
      have HR : Hid (Row wr w.heap.size (bigR 0) ∧ Row wr (w.heap.size + 1) (lows (BitVec.ofNat 256 n) k)) := ⟨r0, r1⟩
      have hbit := bit_word n k hn
      rw [← bit_of n k (by omega)] at hbit
      clear r0 r1 hz
      generalize (decide (k < k) && (BitVec.ofNat 256 n).getLsbD k) = q at c1
      generalize (BitVec.ofNat 256 n).getLsbD k = s at hbit HL
      go_wp2_with fail
      refine ⟨⟨k + 1, by simp, by omega, ?_, ?_, ?_⟩, ?_⟩
      · exact HR.out.1.other _ _ (by omega)
      · rw [← HL.out]; exact HR.out.2.set k _
      · exact HB.out.setCell (by simp) _
      · simp only [intOf]; omega
    · have hk64 : k = 64 := by omega
      subst hk64
      have e64 : lows (BitVec.ofNat 256 n) 64 = bigR (BitVec.ofNat 256 n) := by
        refine row_ext (lows_size _ _) (bigR_size _) fun i h => ?_
        rw [lows_get _ _ _ h, bigR_get _ _ h]
        by_cases hi : i < 64
        · simp [hi]
        · have : (BitVec.ofNat 256 n).getLsbD i = false := by
            rw [BitVec.getLsbD_ofNat]
            have : n.testBit i = false := Nat.testBit_lt_two_pow (Nat.lt_of_lt_of_le (by omega : n < 2 ^ 64) (Nat.pow_le_pow_right (by decide) (by omega)))
            simp [this]
          simp [this]
      rw [e64] at r1
      clear hz e64
      go_wp2_with (first | refine wpList_load_row rfl 132 _ rfl (w.heap.size + 1) rfl 132 (bigR (BitVec.ofNat 256 n)) (0, 0) _ r1 Tryz.underlying132 rfl (size48 _) ?_ | refine wpList_store_row rfl 132 _ _ rfl w.heap.size (bigR (BitVec.ofNat 256 n)) rfl rfl 132 (bigR 0) r0 (size48 _) (by rw [bigR_size, bigR_size]) (one48 _) ?_)
      refine bodyPost_ret (results_cell_row Tryz.results80 _ _ w.heap.size 132 (bigR (BitVec.ofNat 256 n)) (0, 0) _ rfl r0.setRow Tryz.underlying132 rfl (size48 _)) rfl ?_
      exact ⟨rfl, below_setRow HB.out (Nat.le_refl _)⟩

end Go.Proofs.YtcgaekaollhmpaaGreat


namespace Go.Proofs.YtcgaekaollhmpaaGreat
open Go.RowKit Big

theorem row_other {w : World} {g g' : Nat} {c c' : Array Value} (h : Row w g c) (hne : g ≠ g') : Row (w.setRow g' c') g c := (setRow_other w g' g _ hne).trans h

/-- x times the lowest k bits of n -/
def tm (x : W) (n k : Nat) : W := x * BitVec.ofNat 256 (n % 2 ^ k)
theorem tm_zero (x : W) (n : Nat) : tm x n 0 = 0 := by unfold tm; rw [Nat.pow_zero, Nat.mod_one]; simp
theorem tm_no (x : W) (n k : Nat) (h : n.testBit k = false) : tm x n (k + 1) = tm x n k := by
  unfold tm; rw [mod_succ, h]; simp
theorem tm_yes (x : W) (n k : Nat) (h : n.testBit k = true) : tm x n (k + 1) = tm x n k + x <<< k := by
  unfold tm
  rw [mod_succ, h]
  simp only [if_true]
  rw [BitVec.ofNat_add, BitVec.mul_add]
  congr 1
  apply BitVec.eq_of_toNat_eq
  rw [BitVec.toNat_mul, BitVec.toNat_shiftLeft, BitVec.toNat_ofNat, Nat.shiftLeft_eq, Nat.mul_mod_mod]

set_option maxHeartbeats 2000000 in
set_option maxRecDepth 100000 in
theorem times_big (x : W) (n : Nat) (w : World) (hn : n < 18446744073709551616) :
    Calls Tryz.prog 81 #[.agg (bigR x), .int .u64 n] w fun e w' => e = .returned (.agg (bigR (tm x n 64))) ∧ Below w.heap.size w w' := by
  have hz := zero48
  have HP : Hid (∀ (x y : W) (w : World), Calls Tryz.prog 103 #[.agg (bigR x), .agg (bigR y)] w fun e w' => e = .returned (.agg (bigR (x + y))) ∧ Below w.heap.size w w') := fun x y w => plus_any x y w
  have HU : Hid (∀ (x : W) (w : World), Calls Tryz.prog 104 #[.agg (bigR x)] w fun e w' => e = .returned (.agg (bigR (x <<< 1))) ∧ Below w.heap.size w w') := fun x w => up_any x w
  go_enter Tryz.func81, Tryz.ntmps81
  go_wp2_with fail
  go_loopw [6] (fun iv wr => ∃ k : Nat, iv = .int .i64 k ∧ k ≤ 64 ∧ Row wr w.heap.size (bigR (x <<< k)) ∧ Row wr (w.heap.size + 1) (bigR 0) ∧ Row wr (w.heap.size + 1 + 1) (bigR (tm x n k)) ∧ Below w.heap.size w wr) (fun iv _ => 64 - (intOf iv).toNat)
  case atStart =>
    refine ⟨0, rfl, by omega, ?_, ?_, ?_, ?_⟩
    · rw [BitVec.shiftLeft_zero]; exact ((row_new w _ _ rfl).alloc _).alloc _
    · exact (row_new _ _ _ (by simp)).alloc _
    · rw [tm_zero]; exact row_new _ _ _ (by simp)
    · exact (((Below.refl _ w).alloc (Nat.le_refl _) _).alloc (by simp) _).alloc (by simp; omega) _
  case round =>
    obtain ⟨k, rfl, hk, r0, r1, r2, hb⟩ := hrel
    have HB : Hid (Below w.heap.size w wr) := hb
    clear hb
    by_cases hlt : k < 64
    · have hki : (k : Int) < 64 := by omega
      have hbit := bit_word n k hn
      have hsh : Hid (x <<< k <<< 1 = x <<< (k + 1)) := (BitVec.shiftLeft_add x k 1).symm
      clear hz
      cases hs : n.testBit k
      · rw [hs] at hbit
        have hT : Hid (tm x n (k + 1) = tm x n k) := tm_no x n k hs
        clear hs
        go_upto_region 7 with fail
        go_wp2_with (first | refine wpList_load_row rfl 132 _ rfl w.heap.size rfl 132 (bigR (x <<< k)) (0, 0) _ r0 Tryz.underlying132 rfl (size48 _) ?_ | (go_at_call 104; refine (HU.out _ _).mono ?_))
        rintro e w1 ⟨rfl, b1⟩
        have q0 := Row.later r0 b1 (Row.lt r0)
        have q1 := Row.later r1 b1 (Row.lt r1)
        have q2 := Row.later r2 b1 (Row.lt r2)
        have y1 : Hid (Below w.heap.size w w1) := below_from HB.out b1 HB.out.size
        clear b1
        go_wp2_with (refine wpList_store_row rfl 132 _ _ rfl w.heap.size (bigR (x <<< k <<< 1)) rfl rfl 132 (bigR (x <<< k)) q0 (size48 _) (by rw [bigR_size, bigR_size]) (one48 _) ?_)
        refine ⟨⟨k + 1, by simp, by omega, ?_, ?_, ?_, ?_⟩, ?_⟩
        · rw [← hsh.out]; exact q0.setRow
        · exact row_other q1 (by omega)
        · rw [hT.out]; exact row_other q2 (by omega)
        · exact below_setRow y1.out (Nat.le_refl _)
        · simp only [intOf]; omega
      · rw [hs] at hbit
        have hT : Hid (tm x n (k + 1) = tm x n k + x <<< k) := tm_yes x n k hs
        clear hs
        go_upto_region 6 with fail
        go_wp2_with (first | refine wpList_load_row rfl 132 _ rfl (w.heap.size + 1 + 1) rfl 132 (bigR (tm x n k)) (0, 0) _ r2 Tryz.underlying132 rfl (size48 _) ?_ | refine wpList_load_row rfl 132 _ rfl w.heap.size rfl 132 (bigR (x <<< k)) (0, 0) _ r0 Tryz.underlying132 rfl (size48 _) ?_ | (go_at_call 103; refine (HP.out _ _ _).mono ?_))
        rintro e w0 ⟨rfl, b0⟩
        have p0 := Row.later r0 b0 (Row.lt r0)
        have p1 := Row.later r1 b0 (Row.lt r1)
        have p2 := Row.later r2 b0 (Row.lt r2)
        have y0 : Hid (Below w.heap.size w w0) := below_from HB.out b0 HB.out.size
        clear b0 r0 r1 r2
        go_upto_region 7 with (refine wpList_store_row rfl 132 _ _ rfl (w.heap.size + 1 + 1) (bigR (tm x n k + x <<< k)) rfl rfl 132 (bigR (tm x n k)) p2 (size48 _) (by rw [bigR_size, bigR_size]) (one48 _) ?_)
        have z0 := row_other (c' := bigR (tm x n k + x <<< k)) (g' := w.heap.size + 1 + 1) p0 (by omega)
        have z1 := row_other (c' := bigR (tm x n k + x <<< k)) (g' := w.heap.size + 1 + 1) p1 (by omega)
        have z2 := Row.setRow (c' := bigR (tm x n k + x <<< k)) p2
        have yz : Hid (Below w.heap.size w (w0.setRow (w.heap.size + 1 + 1) (bigR (tm x n k + x <<< k)))) := below_setRow y0.out (by omega)
        clear p0 p1 p2 y0
        generalize w0.setRow (w.heap.size + 1 + 1) (bigR (tm x n k + x <<< k)) = w2 at *
        go_wp2_with (first | refine wpList_load_row rfl 132 _ rfl w.heap.size rfl 132 (bigR (x <<< k)) (0, 0) _ z0 Tryz.underlying132 rfl (size48 _) ?_ | (go_at_call 104; refine (HU.out _ _).mono ?_))
        rintro e w1 ⟨rfl, b1⟩
        have q0 := Row.later z0 b1 (Row.lt z0)
        have q1 := Row.later z1 b1 (Row.lt z1)
        have q2 := Row.later z2 b1 (Row.lt z2)
        have y1 : Hid (Below w.heap.size w w1) := below_from yz.out b1 yz.out.size
        clear b1
        go_wp2_with (refine wpList_store_row rfl 132 _ _ rfl w.heap.size (bigR (x <<< k <<< 1)) rfl rfl 132 (bigR (x <<< k)) q0 (size48 _) (by rw [bigR_size, bigR_size]) (one48 _) ?_)
        refine ⟨⟨k + 1, by simp, by omega, ?_, ?_, ?_, ?_⟩, ?_⟩
        · rw [← hsh.out]; exact q0.setRow
        · exact row_other q1 (by omega)
        · rw [hT.out]; exact row_other q2 (by omega)
        · exact below_setRow y1.out (Nat.le_refl _)
        · simp only [intOf]; omega
    · have hk64 : k = 64 := by omega
      subst hk64
      clear hz r0
      go_wp2_with (first | refine wpList_load_row rfl 132 _ rfl (w.heap.size + 1 + 1) rfl 132 (bigR (tm x n 64)) (0, 0) _ r2 Tryz.underlying132 rfl (size48 _) ?_ | refine wpList_store_row rfl 132 _ _ rfl (w.heap.size + 1) (bigR (tm x n 64)) rfl rfl 132 (bigR 0) r1 (size48 _) (by rw [bigR_size, bigR_size]) (one48 _) ?_)
      refine bodyPost_ret (results_cell_row Tryz.results81 _ _ (w.heap.size + 1) 132 (bigR (tm x n 64)) (0, 0) _ rfl r1.setRow Tryz.underlying132 rfl (size48 _)) rfl ?_
      exact ⟨rfl, below_setRow HB.out (by omega)⟩

end Go.Proofs.YtcgaekaollhmpaaGreat
