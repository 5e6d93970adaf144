/-
  The ratio's parts of a comparison: formed, cmp.Compare of uint64, times.
-/
import Derived.Test.YtcgaekaollhmpaaGreatNa
import Derived.Test.YtcgaekaollhmpaaGreatShelf
import Derived.Lib.QuietBelow
namespace Go.Proofs.YtcgaekaollhmpaaGreat.Q
/-- the order of two numbers: -1, 0, 1 -/
def ord (x y : Nat) : Int := if x < y then -1 else if y < x then 1 else 0
theorem ord_cases (x y : Nat) : (ord x y = -1 ∧ x < y) ∨ (ord x y = 0 ∧ x = y) ∨ (ord x y = 1 ∧ y < x) := by
  unfold ord
  by_cases h : x < y
  · rw [if_pos h]; exact Or.inl ⟨rfl, h⟩
  · by_cases h' : y < x
    · rw [if_neg h, if_pos h']; exact Or.inr (Or.inr ⟨rfl, h'⟩)
    · rw [if_neg h, if_neg h']; exact Or.inr (Or.inl ⟨rfl, by omega⟩)
end Go.Proofs.YtcgaekaollhmpaaGreat.Q
namespace Go.Proofs.YtcgaekaollhmpaaGreat
open Go.RowKit
theorem at_drew {w : World} {n : Nat} {x : Obj} (h : w.heap[n]? = some x) : w.drew.heap[n]? = some x := h
theorem new1 {w : World} {o o' : Obj} : ((w.alloc o).alloc o').heap[w.heap.size + 1]? = some o' := by
  have := new0 (w := w.alloc o) (o := o')
  rwa [World.size_alloc] at this
theorem first0 {w : World} {A B : Obj} : ((w.alloc A).alloc B).heap[w.heap.size]? = some A := at_alloc new0
theorem first1 {w : World} {A B : Obj} : ((w.alloc A).alloc B).heap[w.heap.size + 1]? = some B := new1
theorem at_other {W : World} {g g' k : Nat} {v : Value} {o : Obj} (h : W.heap[g]? = some o) (hne : g ≠ g') : (W.setCell ⟨g', k, none⟩ v).heap[g]? = some o := (Below.heap_setCell _ _ _ _ hne).trans h
set_option maxHeartbeats 400000 in
theorem rat_formed (a b c d : Nat) (w : World) :
    Calls Tryz.prog 56 #[.agg #[.int .u64 a, .int .u64 b], .agg #[.int .u64 c, .int .u64 d]] w fun e w' => e = .returned (.bool (decide (b ≠ 0 ∧ d ≠ 0))) ∧ Below w.heap.size w w' := by
  go_enter Tryz.func56, Tryz.ntmps56
  go_wp2_with fail
  · go_ret
    rename_i h
    refine ⟨?_, ?_⟩
    · subst h; simp
    · exact ((Below.refl _ w).alloc (Nat.le_refl _) _).alloc (by simp) _
  · go_ret
    rename_i h
    refine ⟨?_, ?_⟩
    · have e : ((b : Int) != 0 && (d : Int) != 0) = decide (b ≠ 0 ∧ d ≠ 0) := by
        rw [Bool.eq_iff_iff]
        simp
      exact congrArg (fun b => Ending.returned (Value.bool b)) e
    · exact ((Below.refl _ w).alloc (Nat.le_refl _) _).alloc (by simp) _

set_option maxHeartbeats 400000 in
theorem isNaN_any (a : Nat) (w : World) : Calls Tryz.prog 106 #[.int .u64 a] w fun e w' => e = .returned (.bool false) ∧ w' = w := by
  go_enter Tryz.func106, Tryz.ntmps106
  go_wp2
  go_ret
  exact ⟨by simp, rfl⟩

set_option maxHeartbeats 400000 in
theorem compare_any (a b : Nat) (w : World) : Calls Tryz.prog 85 #[.int .u64 a, .int .u64 b] w fun e w' => e = .returned (.int .i64 (Q.ord a b)) ∧ w' = w := by
  go_enter Tryz.func85, Tryz.ntmps85
  go_wp2_with (go_at_call 106; refine (isNaN_any _ _).mono ?_; rintro e w' ⟨rfl, rfl⟩)
  · rename_i h; go_ret; rw [Q.ord, if_pos h]; exact ⟨rfl, rfl⟩
  · rename_i h h2; go_ret; rw [Q.ord, if_neg (by omega), if_pos (by omega)]; exact ⟨rfl, rfl⟩
  · rename_i h h2; go_ret; rw [Q.ord, if_neg (by omega), if_neg (by omega)]; exact ⟨rfl, rfl⟩

/-- a number of 128 bits, as the program holds it -/
def wideV (x : Nat) : Value := .agg #[.int .u64 (x / 18446744073709551616 : Nat), .int .u64 (x % 18446744073709551616 : Nat)]

set_option maxHeartbeats 400000 in
theorem times_any (a b : Nat) (w : World) (ha : a < 18446744073709551616) (hb : b < 18446744073709551616) :
    Calls Tryz.prog 83 #[.int .u64 a, .int .u64 b] w fun e w' => e = .returned (wideV (a * b)) ∧ Below w.heap.size w w' := by
  have HM : Hid (∀ w, Calls Tryz.prog 105 #[.int .u64 a, .int .u64 b] w fun e w' => e = .returned (.tuple #[.int .u64 ((a * b / 18446744073709551616 : Nat) : Int), .int .u64 ((a * b % 18446744073709551616 : Nat) : Int)]) ∧ w' = w) := fun w => Tryz.bits_Mul64 a b ha hb w
  go_enter Tryz.func83, Tryz.ntmps83
  go_wp2_with (go_at_call 105; refine (HM.out _).mono ?_; rintro e w' ⟨rfl, rfl⟩)
  go_returns
  refine ⟨rfl, ?_⟩
  go_grown

def orI (x y : Int) : Int := if x ≠ 0 then x else y

set_option maxHeartbeats 400000 in
theorem or_two (x y : Int) (b c : Nat) (w : World) (h0 : w.cell? ⟨b, 0, none⟩ = some (.int .i64 x)) (h1 : w.cell? ⟨b, 1, none⟩ = some (.int .i64 y)) :
    Calls Tryz.prog 84 #[.slice (some ⟨b, 0, none⟩) 2 c] w fun e w' => e = .returned (.int .i64 (orI x y)) ∧ w' = w := by
  by_cases hx : x = 0
  · have e : orI x y = y := by unfold orI; simp [hx]
    rw [e]
    subst hx
    clear e
    by_cases hy : y = 0
    · subst hy
      go_enter Tryz.func84, Tryz.ntmps84
      go_wp2_with fail
      go_rounds 3
      go_returns
      exact ⟨rfl, rfl⟩
    · have hy' : (y != 0) = true := by simp [hy]
      go_enter Tryz.func84, Tryz.ntmps84
      go_wp2_with fail
      go_rounds 3
      go_returns
      exact ⟨rfl, rfl⟩
  · have e : orI x y = x := by unfold orI; simp [hx]
    rw [e]
    clear e
    have hx' : (x != 0) = true := by simp [hx]
    go_enter Tryz.func84, Tryz.ntmps84
    go_wp2_with fail
    go_rounds 3
    go_returns
    exact ⟨rfl, rfl⟩

theorem or_ord (a b c d : Nat) (h1 : b < 18446744073709551616) (h2 : d < 18446744073709551616) : orI (Q.ord a c) (Q.ord b d) = Q.ord (a * 18446744073709551616 + b) (c * 18446744073709551616 + d) := by
  unfold orI
  rcases Q.ord_cases a c with ⟨h, h'⟩ | ⟨h, h'⟩ | ⟨h, h'⟩ <;> rw [h]
  · rw [if_pos (by decide)]
    rcases Q.ord_cases (a * 18446744073709551616 + b) (c * 18446744073709551616 + d) with ⟨k, k'⟩ | ⟨k, k'⟩ | ⟨k, k'⟩ <;> rw [k] <;> omega
  · rw [if_neg (by decide)]
    rcases Q.ord_cases b d with ⟨g, g'⟩ | ⟨g, g'⟩ | ⟨g, g'⟩ <;> rcases Q.ord_cases (a * 18446744073709551616 + b) (c * 18446744073709551616 + d) with ⟨k, k'⟩ | ⟨k, k'⟩ | ⟨k, k'⟩ <;> rw [g, k] <;> omega
  · rw [if_pos (by decide)]
    rcases Q.ord_cases (a * 18446744073709551616 + b) (c * 18446744073709551616 + d) with ⟨k, k'⟩ | ⟨k, k'⟩ | ⟨k, k'⟩ <;> rw [k] <;> omega

theorem ord_wide (x y : Nat) : orI (Q.ord (x / 18446744073709551616) (y / 18446744073709551616)) (Q.ord (x % 18446744073709551616) (y % 18446744073709551616)) = Q.ord x y := by
  rw [or_ord _ _ _ _ (Nat.mod_lt _ (by decide)) (Nat.mod_lt _ (by decide))]
  congr 1 <;> omega

theorem keep2 {W w1 : World} {g : Nat} {x y : Value} {ty : TypeId} (b : Below W.heap.size W w1) (h : W.heap[g]? = some (.cells #[x, y] ty)) :
    w1.heap[g]? = some (.cells #[x, y] ty) ∧ w1.cell? ⟨g, 0, none⟩ = some x ∧ w1.cell? ⟨g, 1, none⟩ = some y ∧ w1.frozen? ⟨g, 0, none⟩ = false ∧ w1.frozen? ⟨g, 1, none⟩ = false ∧ g < w1.heap.size ∧ ¬ g = w1.heap.size := by
  have h1 : w1.heap[g]? = some (.cells #[x, y] ty) := (b.block g (Array.getElem?_eq_some_iff.1 h).1).trans h
  have h2 : g < w1.heap.size := (Array.getElem?_eq_some_iff.1 h1).1
  exact ⟨h1, Lib.cell_of_heap h1 0, Lib.cell_of_heap h1 1, Lib.frozen_of_heap h1 0, Lib.frozen_of_heap h1 1, h2, by omega⟩
theorem first2 {w : World} {A B C : Obj} : (((w.alloc A).alloc B).alloc C).heap[w.heap.size + 1 + 1]? = some C := by
  have := new0 (w := (w.alloc A).alloc B) (o := C)
  rwa [World.size_alloc, World.size_alloc] at this
theorem first3 {w : World} {A B C D : Obj} : ((((w.alloc A).alloc B).alloc C).alloc D).heap[w.heap.size + 1 + 1 + 1]? = some D := by
  have := new0 (w := ((w.alloc A).alloc B).alloc C) (o := D)
  rwa [World.size_alloc, World.size_alloc, World.size_alloc] at this

end Go.Proofs.YtcgaekaollhmpaaGreat
