/-
  The contracts of the program's small functions: gcd, formed, isNaN, Compare. The contracts of the program's times, compare, Cmp and New, and that it is awake. The program's compare of two fractions, in this part's own words. The contracts of the program's Cmp and New, and that it is awake. The contracts of the reference's New, and of the laws' plain.
-/
import Derived.Test.YtcgaekaollhmpaaGreatRows
import Derived.Test.YtcgaekaollhmpaaGreatCFrac
import Derived.Test.YtcgaekaollhmpaaGreatCWalkG
import Derived.WalkKit
import Derived.WalkSpells
import Derived.WalkSmall
import Derived.Deep.QuietTactic
import Derived.BigQuiet
import Derived.Handy
import Derived.Laws.ResultCell
import Derived.Test.YtcgaekaollhmpaaGreatShelf
import Derived.Lib.QuietBelow
import Derived.Deep.RegionHeld3
import Derived.Deep.CutRange
import Derived.Deep.DeepCutAuto
import Derived.Test.YtcgaekaollhmpaaGreatQb
namespace Go.Proofs.YtcgaekaollhmpaaGreat.Vs
open Go.RowKit

theorem rem_u64 (a b : Nat) (hb : b < 18446744073709551616) (h0 : 0 < b) : IntKind.u64.wrap ((a : Int).tmod (b : Int)) = ((a % b : Nat) : Int) := by
  rw [IntKind.wrap_u64]
  have h := Nat.mod_lt a h0
  rw [Int.tmod_eq_emod_of_nonneg (by omega), ← Int.natCast_emod]
  omega
theorem quo_u64 (a b : Nat) (ha : a < 18446744073709551616) : IntKind.u64.wrap ((a : Int).tdiv (b : Int)) = ((a / b : Nat) : Int) := by
  have h := Nat.div_le_self a b
  have e : (a : Int).tdiv (b : Int) = ((a / b : Nat) : Int) := by rw [Int.tdiv_eq_ediv_of_nonneg (by omega), ← Int.natCast_ediv]
  rw [IntKind.wrap_u64, e]
  generalize a / b = c at *
  omega

theorem div_u64 (a b : Nat) (ha : a < 18446744073709551616) : IntKind.u64.wrap ((a : Int) / (b : Int)) = ((a / b : Nat) : Int) := by
  have h := Nat.div_le_self a b
  rw [IntKind.wrap_u64, ← Int.natCast_ediv]
  generalize a / b = c at *
  omega

set_option maxHeartbeats 400000 in
theorem gcd_any (a b : Nat) (w : World) (ha : a < 18446744073709551616) (hb : b < 18446744073709551616) :
    Calls Tryz.prog 82 #[.int .u64 a, .int .u64 b] w fun e w' => e = .returned (.int .u64 (a.gcd b : Nat)) ∧ ∃ n, w' = w.drewN n := by
  go_enter Tryz.func82, Tryz.ntmps82
  go_wp2_with fail
  go_loopw [0, 1] (fun x y wr => ∃ p q nq : Nat, x = .int .u64 p ∧ y = .int .u64 q ∧ p < 18446744073709551616 ∧ q < 18446744073709551616 ∧ p.gcd q = a.gcd b ∧ wr = w.drewN nq) (fun _ y _ => (intOf y).toNat)
  case atStart => exact ⟨a, b, 0, rfl, rfl, ha, hb, rfl, rfl⟩
  case round =>
    obtain ⟨p, q, nq, rfl, rfl, hp, hq, hg, rfl⟩ := hrel
    by_cases h0 : q = 0
    · subst h0
      go_wp2_with fail
      go_ret
      rw [← hg, Nat.gcd_zero_right]
      exact ⟨rfl, _, rfl⟩
    · have hq0 : ((q : Int) == 0) = false := by simp; omega
      have hq1 : ¬ ((q : Int) = 0) := by omega
      go_wp2_with fail
      go_quiet (fail)
      go_wp2_with fail
      refine ⟨⟨q, p % q, _, rfl, by rw [Int.natCast_emod], hq, ?_, ?_, by rw [World.drewN_drewN]⟩, ?_⟩
      · have := Nat.mod_lt p (show 0 < q by omega)
        omega
      · rw [← hg, Nat.gcd_comm p q, Nat.gcd_rec q p, Nat.gcd_comm]
      · have := Nat.mod_lt p (show 0 < q by omega)
        simp only [intOf]
        omega

set_option maxHeartbeats 400000 in
theorem rat_formed (a b c d : Nat) (w : World) :
    Calls Tryz.prog 56 #[.agg #[.int .u64 a, .int .u64 b], .agg #[.int .u64 c, .int .u64 d]] w fun e w' => e = .returned (.bool (decide (b ≠ 0 ∧ d ≠ 0))) ∧ Below w.heap.size w w' := by
  go_enter Tryz.func56, Tryz.ntmps56
  go_wp2_with fail
  · go_ret
    rename_i h
    refine ⟨?_, ?_⟩
    · subst h; simp
    · exact ((Below.refl _ w).alloc (Nat.le_refl _) _).alloc (by simp) _
  · go_ret
    rename_i h
    refine ⟨?_, ?_⟩
    · have e : ((b : Int) != 0 && (d : Int) != 0) = decide (b ≠ 0 ∧ d ≠ 0) := by
        rw [Bool.eq_iff_iff]
        simp
      exact congrArg (fun b => Ending.returned (Value.bool b)) e
    · exact ((Below.refl _ w).alloc (Nat.le_refl _) _).alloc (by simp) _

set_option maxHeartbeats 400000 in
theorem isNaN_any (a : Nat) (w : World) : Calls Tryz.prog 106 #[.int .u64 a] w fun e w' => e = .returned (.bool false) ∧ w' = w := by
  go_enter Tryz.func106, Tryz.ntmps106
  go_wp2
  go_ret
  exact ⟨by simp, rfl⟩

set_option maxHeartbeats 400000 in
theorem compare_any (a b : Nat) (w : World) : Calls Tryz.prog 85 #[.int .u64 a, .int .u64 b] w fun e w' => e = .returned (.int .i64 (Q.ord a b)) ∧ w' = w := by
  go_enter Tryz.func85, Tryz.ntmps85
  go_wp2_with (go_at_call 106; refine (isNaN_any _ _).mono ?_; rintro e w' ⟨rfl, rfl⟩)
  · rename_i h; go_ret; rw [Q.ord, if_pos h]; exact ⟨rfl, rfl⟩
  · rename_i h h2; go_ret; rw [Q.ord, if_neg (by omega), if_pos (by omega)]; exact ⟨rfl, rfl⟩
  · rename_i h h2; go_ret; rw [Q.ord, if_neg (by omega), if_neg (by omega)]; exact ⟨rfl, rfl⟩

set_option maxHeartbeats 400000 in
theorem lowest_any (a b : Nat) (w : World) (ha : a < 18446744073709551616) (hb : b < 18446744073709551616) (h0 : 0 < b) :
    Calls Tryz.prog 55 #[.agg #[.int .u64 a, .int .u64 b]] w fun e w' => e = .returned (.agg #[.int .u64 (a / a.gcd b : Nat), .int .u64 (b / a.gcd b : Nat)]) ∧ Below w.heap.size w w' := by
  have hg : 0 < a.gcd b := Nat.gcd_pos_of_pos_right _ h0
  have HG : Hid (∀ w, Calls Tryz.prog 82 #[.int .u64 a, .int .u64 b] w fun e w' => e = .returned (.int .u64 (a.gcd b : Nat)) ∧ ∃ n, w' = w.drewN n) := fun w => gcd_any a b w ha hb
  go_enter Tryz.func55, Tryz.ntmps55
  go_wp2_with (go_at_call 82; refine (HG.out _).mono ?_; rintro e w' ⟨rfl, nq, rfl⟩)
  clear HG
  generalize hgg : a.gcd b = g at *
  have hg0 : ¬ ((g : Int) = 0) := by omega
  go_region
  go_wp2_with fail
  go_returns
  subst hgg
  rw [div_u64 a _ ha, div_u64 b _ hb]
  refine ⟨rfl, ?_⟩
  refine ((below_drewN ?_ _).setCell (by simp) _).setCell (by simp) _
  go_grown

/-- a ratio and an error's number -/
def ans (r : Nat × Nat × Nat) : Ending := .returned (.tuple #[.agg #[.int .u64 r.1, .int .u64 r.2.1], .int .i64 r.2.2])

end Go.Proofs.YtcgaekaollhmpaaGreat.Vs

namespace Go.Proofs.YtcgaekaollhmpaaGreat.Vs
open Go.RowKit

/-- a number of 128 bits, as the program holds it -/
def wideV (x : Nat) : Value := .agg #[.int .u64 (x / 18446744073709551616 : Nat), .int .u64 (x % 18446744073709551616 : Nat)]

set_option maxHeartbeats 400000 in
theorem times_any (a b : Nat) (w : World) (ha : a < 18446744073709551616) (hb : b < 18446744073709551616) :
    Calls Tryz.prog 83 #[.int .u64 a, .int .u64 b] w fun e w' => e = .returned (wideV (a * b)) ∧ Below w.heap.size w w' := by
  have HM : Hid (∀ w, Calls Tryz.prog 105 #[.int .u64 a, .int .u64 b] w fun e w' => e = .returned (.tuple #[.int .u64 ((a * b / 18446744073709551616 : Nat) : Int), .int .u64 ((a * b % 18446744073709551616 : Nat) : Int)]) ∧ w' = w) := fun w => Tryz.bits_Mul64 a b ha hb w
  go_enter Tryz.func83, Tryz.ntmps83
  go_wp2_with (go_at_call 105; refine (HM.out _).mono ?_; rintro e w' ⟨rfl, rfl⟩)
  go_returns
  refine ⟨rfl, ?_⟩
  go_grown

def orI (x y : Int) : Int := if x ≠ 0 then x else y

set_option maxHeartbeats 400000 in
theorem or_two (x y : Int) (b c : Nat) (w : World) (h0 : w.cell? ⟨b, 0, none⟩ = some (.int .i64 x)) (h1 : w.cell? ⟨b, 1, none⟩ = some (.int .i64 y)) :
    Calls Tryz.prog 84 #[.slice (some ⟨b, 0, none⟩) 2 c] w fun e w' => e = .returned (.int .i64 (orI x y)) ∧ w' = w := by
  by_cases hx : x = 0
  · have e : orI x y = y := by unfold orI; simp [hx]
    rw [e]
    subst hx
    clear e
    by_cases hy : y = 0
    · subst hy
      go_enter Tryz.func84, Tryz.ntmps84
      go_wp2_with fail
      go_rounds 3
      go_returns
      exact ⟨rfl, rfl⟩
    · have hy' : (y != 0) = true := by simp [hy]
      go_enter Tryz.func84, Tryz.ntmps84
      go_wp2_with fail
      go_rounds 3
      go_returns
      exact ⟨rfl, rfl⟩
  · have e : orI x y = x := by unfold orI; simp [hx]
    rw [e]
    clear e
    have hx' : (x != 0) = true := by simp [hx]
    go_enter Tryz.func84, Tryz.ntmps84
    go_wp2_with fail
    go_rounds 3
    go_returns
    exact ⟨rfl, rfl⟩

theorem or_ord (a b c d : Nat) (h1 : b < 18446744073709551616) (h2 : d < 18446744073709551616) : orI (Q.ord a c) (Q.ord b d) = Q.ord (a * 18446744073709551616 + b) (c * 18446744073709551616 + d) := by
  unfold orI
  rcases Q.ord_cases a c with ⟨h, h'⟩ | ⟨h, h'⟩ | ⟨h, h'⟩ <;> rw [h]
  · rw [if_pos (by decide)]
    rcases Q.ord_cases (a * 18446744073709551616 + b) (c * 18446744073709551616 + d) with ⟨k, k'⟩ | ⟨k, k'⟩ | ⟨k, k'⟩ <;> rw [k] <;> omega
  · rw [if_neg (by decide)]
    rcases Q.ord_cases b d with ⟨g, g'⟩ | ⟨g, g'⟩ | ⟨g, g'⟩ <;> rcases Q.ord_cases (a * 18446744073709551616 + b) (c * 18446744073709551616 + d) with ⟨k, k'⟩ | ⟨k, k'⟩ | ⟨k, k'⟩ <;> rw [g, k] <;> omega
  · rw [if_pos (by decide)]
    rcases Q.ord_cases (a * 18446744073709551616 + b) (c * 18446744073709551616 + d) with ⟨k, k'⟩ | ⟨k, k'⟩ | ⟨k, k'⟩ <;> rw [k] <;> omega

theorem ord_wide (x y : Nat) : orI (Q.ord (x / 18446744073709551616) (y / 18446744073709551616)) (Q.ord (x % 18446744073709551616) (y % 18446744073709551616)) = Q.ord x y := by
  rw [or_ord _ _ _ _ (Nat.mod_lt _ (by decide)) (Nat.mod_lt _ (by decide))]
  congr 1 <;> omega

theorem keep2 {W w1 : World} {g : Nat} {x y : Value} {ty : TypeId} (b : Below W.heap.size W w1) (h : W.heap[g]? = some (.cells #[x, y] ty)) :
    w1.heap[g]? = some (.cells #[x, y] ty) ∧ w1.cell? ⟨g, 0, none⟩ = some x ∧ w1.cell? ⟨g, 1, none⟩ = some y ∧ w1.frozen? ⟨g, 0, none⟩ = false ∧ w1.frozen? ⟨g, 1, none⟩ = false ∧ g < w1.heap.size ∧ ¬ g = w1.heap.size := by
  have h1 : w1.heap[g]? = some (.cells #[x, y] ty) := (b.block g (Array.getElem?_eq_some_iff.1 h).1).trans h
  have h2 : g < w1.heap.size := (Array.getElem?_eq_some_iff.1 h1).1
  exact ⟨h1, Lib.cell_of_heap h1 0, Lib.cell_of_heap h1 1, Lib.frozen_of_heap h1 0, Lib.frozen_of_heap h1 1, h2, by omega⟩
theorem first2 {w : World} {A B C : Obj} : (((w.alloc A).alloc B).alloc C).heap[w.heap.size + 1 + 1]? = some C := by
  have := new0 (w := (w.alloc A).alloc B) (o := C)
  rwa [World.size_alloc, World.size_alloc] at this
theorem first3 {w : World} {A B C D : Obj} : ((((w.alloc A).alloc B).alloc C).alloc D).heap[w.heap.size + 1 + 1 + 1]? = some D := by
  have := new0 (w := ((w.alloc A).alloc B).alloc C) (o := D)
  rwa [World.size_alloc, World.size_alloc, World.size_alloc] at this

end Go.Proofs.YtcgaekaollhmpaaGreat.Vs

namespace Go.Proofs.YtcgaekaollhmpaaGreat.Vs
open Go.RowKit

theorem cmps_any (a b c d : Nat) (w : World) (ha : a < 18446744073709551616) (hb : b < 18446744073709551616) (hc : c < 18446744073709551616) (hd : d < 18446744073709551616) :
    Calls Tryz.prog 57 #[.agg #[.int .u64 a, .int .u64 b], .agg #[.int .u64 c, .int .u64 d]] w fun e w' => e = .returned (.int .i64 (Q.ord (a * d) (c * b))) ∧ Below w.heap.size w w' :=
  Go.Proofs.YtcgaekaollhmpaaGreat.cmps_any a b c d w ha hb hc hd

end Go.Proofs.YtcgaekaollhmpaaGreat.Vs

namespace Go.Proofs.YtcgaekaollhmpaaGreat.Vs
open Go.RowKit

/-- a comparison and an error's number -/
def ansC (r : Int × Nat) : Ending := .returned (.tuple #[.int .i64 r.1, .int .i64 r.2])

set_option maxHeartbeats 1000000 in
theorem rat_cmp_bad (a b c d : Nat) (w : World) (h : b = 0 ∨ d = 0) :
    Calls Tryz.prog 33 #[.agg #[.int .u64 a, .int .u64 b], .agg #[.int .u64 c, .int .u64 d]] w fun e w' => e = ansC (0, 4) ∧ Below w.heap.size w w' := by
  have HF : Hid (∀ w, Calls Tryz.prog 56 #[.agg #[.int .u64 a, .int .u64 b], .agg #[.int .u64 c, .int .u64 d]] w fun e w' => e = .returned (.bool false) ∧ Below w.heap.size w w') := fun w => by
    have := rat_formed a b c d w
    rw [show decide (b ≠ 0 ∧ d ≠ 0) = false by simp; omega] at this
    exact this
  clear h
  go_enter Tryz.func33, Tryz.ntmps33
  go_wp2_with (go_at_call 56; refine (HF.out _).mono ?_; rintro e w1 ⟨rfl, b1⟩)
  go_ret2
  refine ⟨rfl, below_from (by go_grown) b1 (by simp; omega)⟩

set_option maxHeartbeats 1000000 in
theorem rat_cmp_good (a b c d : Nat) (w : World) (ha : a < 18446744073709551616) (hb : b < 18446744073709551616) (hc : c < 18446744073709551616) (hd : d < 18446744073709551616) (h1 : b ≠ 0) (h2 : d ≠ 0) :
    Calls Tryz.prog 33 #[.agg #[.int .u64 a, .int .u64 b], .agg #[.int .u64 c, .int .u64 d]] w fun e w' => e = ansC (Q.ord (a * d) (c * b), 0) ∧ Below w.heap.size w w' := by
  have HF : Hid (∀ w, Calls Tryz.prog 56 #[.agg #[.int .u64 a, .int .u64 b], .agg #[.int .u64 c, .int .u64 d]] w fun e w' => e = .returned (.bool true) ∧ Below w.heap.size w w') := fun w => by
    have := rat_formed a b c d w
    rw [show decide (b ≠ 0 ∧ d ≠ 0) = true by simp; omega] at this
    exact this
  have HC : Hid (∀ w, Calls Tryz.prog 57 #[.agg #[.int .u64 a, .int .u64 b], .agg #[.int .u64 c, .int .u64 d]] w fun e w' => e = .returned (.int .i64 (Q.ord (a * d) (c * b))) ∧ Below w.heap.size w w') := fun w => cmps_any a b c d w ha hb hc hd
  generalize Q.ord (a * d) (c * b) = o at *
  clear h1 h2 ha hb hc hd
  go_enter Tryz.func33, Tryz.ntmps33
  go_wp2_with (go_at_call 56; refine (HF.out _).mono ?_; rintro e w1 ⟨rfl, b1⟩; have y1 : Hid (Below w.heap.size w w1) := below_from (by go_grown) b1 (by simp; omega); have z1 := keep2 b1 first0; have z2 := keep2 b1 first1)
  obtain ⟨z10, z11, z12, z13, z14, z15, z16⟩ := z1
  obtain ⟨z20, z21, z22, z23, z24, z25, z26⟩ := z2
  go_wp2_with (go_at_call 57; refine (HC.out _).mono ?_; rintro e w2 ⟨rfl, b2⟩)
  go_ret2
  refine ⟨rfl, below_from y1.out b2 y1.out.size⟩

theorem rat_cmp (a b c d : Nat) (w : World) (ha : a < 18446744073709551616) (hb : b < 18446744073709551616) (hc : c < 18446744073709551616) (hd : d < 18446744073709551616) :
    Calls Tryz.prog 33 #[.agg #[.int .u64 a, .int .u64 b], .agg #[.int .u64 c, .int .u64 d]] w fun e w' => e = ansC (Q.cmpR a b c d) ∧ Below w.heap.size w w' := by
  unfold Q.cmpR
  by_cases h : b = 0 ∨ d = 0
  · rw [if_pos h]; exact rat_cmp_bad a b c d w h
  · rw [if_neg h]; exact rat_cmp_good a b c d w ha hb hc hd (by omega) (by omega)

set_option maxHeartbeats 1000000 in
theorem new_good (n d : Nat) (w : World) (hn : n < 18446744073709551616) (hd : d < 18446744073709551616) (h : 0 < d) :
    Calls Tryz.prog 32 #[.int .u64 n, .int .u64 d] w fun e w' => e = ans (n / n.gcd d, d / n.gcd d, 0) ∧ Below w.heap.size w w' := by
  have HL : Hid (∀ w, Calls Tryz.prog 55 #[.agg #[.int .u64 n, .int .u64 d]] w fun e w' => e = .returned (.agg #[.int .u64 (n / n.gcd d : Nat), .int .u64 (d / n.gcd d : Nat)]) ∧ Below w.heap.size w w') := fun w => lowest_any n d w hn hd h
  have hd0 : ((d : Int) == 0) = false := by simp; omega
  generalize n / n.gcd d = x at *
  generalize d / n.gcd d = y at *
  go_enter Tryz.func32, Tryz.ntmps32
  go_wp2_with (go_at_call 55; refine (HL.out _).mono ?_; rintro e w1 ⟨rfl, b1⟩; have y1 : Hid (Below w.heap.size w w1) := below_from (by go_grown) b1 (by simp); have z1 := keep2 b1 new0)
  have r := at_set2 (v := .int .u64 x) (v' := .int .u64 y) z1.1
  have c0 := Lib.cell_of_heap r 0
  have c1 := Lib.cell_of_heap r 1
  simp only [List.getElem?_toArray, List.getElem?_cons_zero, List.getElem?_cons_succ] at c0 c1
  refine bodyPost_ret (by simp [results, Tryz.results32, go_sem, c0, c1]; rfl) rfl ?_
  exact ⟨rfl, (y1.out.setCell (Nat.le_refl _) _).setCell (Nat.le_refl _) _⟩

set_option maxHeartbeats 1000000 in
theorem new_bad (n : Nat) (w : World) :
    Calls Tryz.prog 32 #[.int .u64 n, .int .u64 0] w fun e w' => e = ans (0, 0, 2) ∧ Below w.heap.size w w' := by
  go_enter Tryz.func32, Tryz.ntmps32
  go_wp2_with fail
  go_returns
  refine ⟨rfl, ?_⟩
  go_grown

theorem new_any (n d : Nat) (w : World) (hn : n < 18446744073709551616) (hd : d < 18446744073709551616) :
    Calls Tryz.prog 32 #[.int .u64 n, .int .u64 d] w fun e w' => e = ans (Q.newR n d) ∧ Below w.heap.size w w' := by
  unfold Q.newR
  by_cases h : d = 0
  · subst h; rw [if_pos rfl]; exact new_bad n w
  · rw [if_neg h]; exact new_good n d w hn hd (by omega)

end Go.Proofs.YtcgaekaollhmpaaGreat.Vs

namespace Go.Proofs.YtcgaekaollhmpaaGreat.Vs
open Go.RowKit

set_option maxHeartbeats 1000000 in
theorem rnew_bad (n : Nat) (w : World) :
    Calls Tryz.prog 52 #[.int .u64 n, .int .u64 0] w fun e w' => e = ans (0, 0, 2) ∧ Below w.heap.size w w' := by
  go_enter Tryz.func52, Tryz.ntmps52
  go_wp2_with fail
  go_returns
  refine ⟨rfl, ?_⟩
  go_grown

set_option maxHeartbeats 1000000 in
theorem rnew_good (n d x y : Nat) (w : World) (hn : n < 18446744073709551616) (hd : d < 18446744073709551616) (h : 0 < d) (hx : n / n.gcd d = x) (hy : d / n.gcd d = y) :
    Calls Tryz.prog 52 #[.int .u64 n, .int .u64 d] w fun e w' => e = ans (x, y, 0) ∧ Below w.heap.size w w' := by
  have hd0 : ((d : Int) == 0) = false := by simp; omega
  have hg : 0 < n.gcd d := Nat.gcd_pos_of_pos_right _ h
  have HX : Hid (n / n.gcd d = x ∧ d / n.gcd d = y) := ⟨hx, hy⟩
  clear hx hy
  go_enter Tryz.func52, Tryz.ntmps52
  go_wp2_with fail
  go_loopw [6, 7] (fun x y wr => ∃ p q : Nat, x = .int .u64 p ∧ y = .int .u64 q ∧ p < 18446744073709551616 ∧ q < 18446744073709551616 ∧ p.gcd q = n.gcd d ∧ wr = w.alloc (.cells #[.int .u64 0, .int .u64 0] 77)) (fun _ y _ => (intOf y).toNat)
  case atStart => exact ⟨n, d, rfl, rfl, hn, hd, rfl, rfl⟩
  case round =>
    obtain ⟨p, q, rfl, rfl, hp, hq, hgg, rfl⟩ := hrel
    by_cases h0 : q = 0
    · subst h0
      rw [Nat.gcd_zero_right] at hgg
      subst hgg
      have hp0 : ¬ (((n.gcd d : Nat) : Int) = 0) := by omega
      have E1 := div_u64 n (n.gcd d) hn
      have E2 := div_u64 d (n.gcd d) hd
      rw [HX.out.1] at E1
      rw [HX.out.2] at E2
      clear HX
      generalize n.gcd d = g at *
      go_wp2_with fail
      go_region
      go_wp2_with fail
      go_returns
      refine ⟨rfl, ?_⟩
      go_grown
    · have hq1 : ¬ ((q : Int) = 0) := by omega
      have hq0 : ((q : Int) == 0) = false := by simp; omega
      go_wp2_with fail
      refine ⟨⟨q, p % q, rfl, by rw [Int.natCast_emod], hq, ?_, ?_, trivial⟩, ?_⟩
      · have := Nat.mod_lt p (show 0 < q by omega)
        omega
      · rw [← hgg, Nat.gcd_comm p q, Nat.gcd_rec q p, Nat.gcd_comm]
      · have := Nat.mod_lt p (show 0 < q by omega)
        simp only [intOf]
        omega

theorem rnew_any (n d : Nat) (w : World) (hn : n < 18446744073709551616) (hd : d < 18446744073709551616) :
    Calls Tryz.prog 52 #[.int .u64 n, .int .u64 d] w fun e w' => e = ans (Q.newR n d) ∧ Below w.heap.size w w' := by
  unfold Q.newR
  by_cases h : d = 0
  · subst h; rw [if_pos rfl]; exact rnew_bad n w
  · rw [if_neg h]; exact rnew_good n d _ _ w hn hd (by omega) rfl rfl

end Go.Proofs.YtcgaekaollhmpaaGreat.Vs
