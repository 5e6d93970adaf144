/-
  The contracts of the program's small functions: gcd, formed, isNaN, Compare.
-/
import Derived.Test.YtfcegoibelokpaaRows
import Derived.Test.YtfcegoibelokpaaFrac
import Derived.WalkKit
import Derived.WalkSpells
import Derived.WalkSmall
import Derived.Deep.QuietTactic
import Derived.BigQuiet
import Derived.Handy
import Derived.Laws.ResultCell
namespace Go.Proofs.Ytfcegoibelokpaa
open Go.RowKit

theorem rem_u64 (a b : Nat) (hb : b < 18446744073709551616) (h0 : 0 < b) : IntKind.u64.wrap ((a : Int).tmod (b : Int)) = ((a % b : Nat) : Int) := by
  rw [IntKind.wrap_u64]
  have h := Nat.mod_lt a h0
  rw [Int.tmod_eq_emod_of_nonneg (by omega), ← Int.natCast_emod]
  omega
theorem quo_u64 (a b : Nat) (ha : a < 18446744073709551616) : IntKind.u64.wrap ((a : Int).tdiv (b : Int)) = ((a / b : Nat) : Int) := by
  have h := Nat.div_le_self a b
  have e : (a : Int).tdiv (b : Int) = ((a / b : Nat) : Int) := by rw [Int.tdiv_eq_ediv_of_nonneg (by omega), ← Int.natCast_ediv]
  rw [IntKind.wrap_u64, e]
  generalize a / b = c at *
  omega

theorem div_u64 (a b : Nat) (ha : a < 18446744073709551616) : IntKind.u64.wrap ((a : Int) / (b : Int)) = ((a / b : Nat) : Int) := by
  have h := Nat.div_le_self a b
  rw [IntKind.wrap_u64, ← Int.natCast_ediv]
  generalize a / b = c at *
  omega

theorem below_drewN {B : Nat} {a w : World} (h : Below B a w) (n : Nat) : Below B a (w.drewN n) := ⟨h.os, h.tape, h.output, h.size, h.block⟩

set_option maxHeartbeats 400000 in
theorem gcd_any (a b : Nat) (w : World) (ha : a < 18446744073709551616) (hb : b < 18446744073709551616) :
    Calls Try.prog 34 #[.int .u64 a, .int .u64 b] w fun e w' => e = .returned (.int .u64 (a.gcd b : Nat)) ∧ ∃ n, w' = w.drewN n := by
  go_enter Try.func34, Try.ntmps34
  go_wp2_with fail
  go_loopw [0, 1] (fun x y wr => ∃ p q nq : Nat, x = .int .u64 p ∧ y = .int .u64 q ∧ p < 18446744073709551616 ∧ q < 18446744073709551616 ∧ p.gcd q = a.gcd b ∧ wr = w.drewN nq) (fun _ y _ => (intOf y).toNat)
  case atStart => exact ⟨a, b, 0, rfl, rfl, ha, hb, rfl, rfl⟩
  case round =>
    obtain ⟨p, q, nq, rfl, rfl, hp, hq, hg, rfl⟩ := hrel
    by_cases h0 : q = 0
    · subst h0
      go_wp2_with fail
      go_ret
      rw [← hg, Nat.gcd_zero_right]
      exact ⟨rfl, _, rfl⟩
    · have hq0 : ((q : Int) == 0) = false := by simp; omega
      have hq1 : ¬ ((q : Int) = 0) := by omega
      go_wp2_with fail
      go_quiet (fail)
      go_wp2_with fail
      refine ⟨⟨q, p % q, _, rfl, by rw [Int.natCast_emod], hq, ?_, ?_, by rw [World.drewN_drewN]⟩, ?_⟩
      · have := Nat.mod_lt p (show 0 < q by omega)
        omega
      · rw [← hg, Nat.gcd_comm p q, Nat.gcd_rec q p, Nat.gcd_comm]
      · have := Nat.mod_lt p (show 0 < q by omega)
        simp only [intOf]
        omega

set_option maxHeartbeats 400000 in
theorem formed_any (a b c d : Nat) (w : World) :
    Calls Try.prog 22 #[.agg #[.int .u64 a, .int .u64 b], .agg #[.int .u64 c, .int .u64 d]] w fun e w' => e = .returned (.bool (decide (b ≠ 0 ∧ d ≠ 0))) ∧ Below w.heap.size w w' := by
  go_enter Try.func22, Try.ntmps22
  go_wp2_with fail
  · go_ret
    rename_i h
    refine ⟨?_, ?_⟩
    · subst h; simp
    · exact ((Below.refl _ w).alloc (Nat.le_refl _) _).alloc (by simp) _
  · go_ret
    rename_i h
    refine ⟨?_, ?_⟩
    · have e : ((b : Int) != 0 && (d : Int) != 0) = decide (b ≠ 0 ∧ d ≠ 0) := by
        rw [Bool.eq_iff_iff]
        simp
      exact congrArg (fun b => Ending.returned (Value.bool b)) e
    · exact ((Below.refl _ w).alloc (Nat.le_refl _) _).alloc (by simp) _

set_option maxHeartbeats 400000 in
theorem isNaN_any (a : Nat) (w : World) : Calls Try.prog 46 #[.int .u64 a] w fun e w' => e = .returned (.bool false) ∧ w' = w := by
  go_enter Try.func46, Try.ntmps46
  go_wp2
  go_ret
  exact ⟨by simp, rfl⟩

set_option maxHeartbeats 400000 in
theorem compare_any (a b : Nat) (w : World) : Calls Try.prog 38 #[.int .u64 a, .int .u64 b] w fun e w' => e = .returned (.int .i64 (Q.ord a b)) ∧ w' = w := by
  go_enter Try.func38, Try.ntmps38
  go_wp2_with (go_at_call 46; refine (isNaN_any _ _).mono ?_; rintro e w' ⟨rfl, rfl⟩)
  · rename_i h; go_ret; rw [Q.ord, if_pos h]; exact ⟨rfl, rfl⟩
  · rename_i h h2; go_ret; rw [Q.ord, if_neg (by omega), if_pos (by omega)]; exact ⟨rfl, rfl⟩
  · rename_i h h2; go_ret; rw [Q.ord, if_neg (by omega), if_neg (by omega)]; exact ⟨rfl, rfl⟩

set_option maxHeartbeats 400000 in
theorem lowest_any (a b : Nat) (w : World) (ha : a < 18446744073709551616) (hb : b < 18446744073709551616) (h0 : 0 < b) :
    Calls Try.prog 21 #[.agg #[.int .u64 a, .int .u64 b]] w fun e w' => e = .returned (.agg #[.int .u64 (a / a.gcd b : Nat), .int .u64 (b / a.gcd b : Nat)]) ∧ Below w.heap.size w w' := by
  have hg : 0 < a.gcd b := Nat.gcd_pos_of_pos_right _ h0
  have HG : Hid (∀ w, Calls Try.prog 34 #[.int .u64 a, .int .u64 b] w fun e w' => e = .returned (.int .u64 (a.gcd b : Nat)) ∧ ∃ n, w' = w.drewN n) := fun w => gcd_any a b w ha hb
  go_enter Try.func21, Try.ntmps21
  go_wp2_with (go_at_call 34; refine (HG.out _).mono ?_; rintro e w' ⟨rfl, nq, rfl⟩)
  clear HG
  generalize hgg : a.gcd b = g at *
  have hg0 : ¬ ((g : Int) = 0) := by omega
  go_region
  go_wp2_with fail
  go_returns
  subst hgg
  rw [div_u64 a _ ha, div_u64 b _ hb]
  refine ⟨rfl, ?_⟩
  refine ((below_drewN ?_ _).setCell (by simp) _).setCell (by simp) _
  go_grown

/-- a ratio and an error's number -/
def ans (r : Nat × Nat × Nat) : Ending := .returned (.tuple #[.agg #[.int .u64 r.1, .int .u64 r.2.1], .int .i64 r.2.2])

set_option maxHeartbeats 400000 in
theorem narrow_fine (b d : Nat) (w : World) :
    Calls Try.prog 35 #[.agg #[.int .u64 0, .int .u64 b], .agg #[.int .u64 0, .int .u64 d]] w fun e w' => e = ans (b, d, 0) ∧ Below w.heap.size w w' := by
  go_enter Try.func35, Try.ntmps35
  go_wp2_with fail
  go_returns
  refine ⟨rfl, ?_⟩
  go_grown

set_option maxHeartbeats 400000 in
theorem narrow_over (a b c d : Nat) (h : a ≠ 0 ∨ c ≠ 0) (w : World) :
    Calls Try.prog 35 #[.agg #[.int .u64 a, .int .u64 b], .agg #[.int .u64 c, .int .u64 d]] w fun e w' => e = ans (0, 0, 7) ∧ Below w.heap.size w w' := by
  by_cases h1 : a = 0
  · have h2 : c ≠ 0 := by omega
    subst h1
    have h3 : ((c : Int) != 0) = true := by simp; omega
    clear h
    go_enter Try.func35, Try.ntmps35
    go_wp2_with fail
    go_returns
    refine ⟨rfl, ?_⟩
    go_grown
  · have h3 : ((a : Int) != 0) = true := by simp; omega
    clear h
    go_enter Try.func35, Try.ntmps35
    go_wp2_with fail
    go_returns
    refine ⟨rfl, ?_⟩
    go_grown

end Go.Proofs.Ytfcegoibelokpaa
