/-
  The contracts of the reference's New, and of the laws' plain.
-/
import Derived.Test.YtfcegoibelokpaaWalkH
namespace Go.Proofs.Ytfcegoibelokpaa
open Go.RowKit

set_option maxHeartbeats 1000000 in
theorem rnew_bad (n : Nat) (w : World) :
    Calls Try.prog 10 #[.int .u64 n, .int .u64 0] w fun e w' => e = ans (0, 0, 2) ∧ Below w.heap.size w w' := by
  go_enter Try.func10, Try.ntmps10
  go_wp2_with fail
  go_returns
  refine ⟨rfl, ?_⟩
  go_grown

set_option maxHeartbeats 1000000 in
theorem rnew_good (n d x y : Nat) (w : World) (hn : n < 18446744073709551616) (hd : d < 18446744073709551616) (h : 0 < d) (hx : n / n.gcd d = x) (hy : d / n.gcd d = y) :
    Calls Try.prog 10 #[.int .u64 n, .int .u64 d] w fun e w' => e = ans (x, y, 0) ∧ Below w.heap.size w w' := by
  have hd0 : ((d : Int) == 0) = false := by simp; omega
  have hg : 0 < n.gcd d := Nat.gcd_pos_of_pos_right _ h
  have HX : Hid (n / n.gcd d = x ∧ d / n.gcd d = y) := ⟨hx, hy⟩
  clear hx hy
  go_enter Try.func10, Try.ntmps10
  go_wp2_with fail
  go_loopw [6, 7] (fun x y wr => ∃ p q : Nat, x = .int .u64 p ∧ y = .int .u64 q ∧ p < 18446744073709551616 ∧ q < 18446744073709551616 ∧ p.gcd q = n.gcd d ∧ wr = w.alloc (.cells #[.int .u64 0, .int .u64 0] 29)) (fun _ y _ => (intOf y).toNat)
  case atStart => exact ⟨n, d, rfl, rfl, hn, hd, rfl, rfl⟩
  case round =>
    obtain ⟨p, q, rfl, rfl, hp, hq, hgg, rfl⟩ := hrel
    by_cases h0 : q = 0
    · subst h0
      rw [Nat.gcd_zero_right] at hgg
      subst hgg
      have hp0 : ¬ (((n.gcd d : Nat) : Int) = 0) := by omega
      have E1 := div_u64 n (n.gcd d) hn
      have E2 := div_u64 d (n.gcd d) hd
      rw [HX.out.1] at E1
      rw [HX.out.2] at E2
      clear HX
      generalize n.gcd d = g at *
      go_wp2_with fail
      go_region
      go_wp2_with fail
      go_returns
      refine ⟨rfl, ?_⟩
      go_grown
    · have hq1 : ¬ ((q : Int) = 0) := by omega
      have hq0 : ((q : Int) == 0) = false := by simp; omega
      go_wp2_with fail
      refine ⟨⟨q, p % q, rfl, by rw [Int.natCast_emod], hq, ?_, ?_, trivial⟩, ?_⟩
      · have := Nat.mod_lt p (show 0 < q by omega)
        omega
      · rw [← hgg, Nat.gcd_comm p q, Nat.gcd_rec q p, Nat.gcd_comm]
      · have := Nat.mod_lt p (show 0 < q by omega)
        simp only [intOf]
        omega

theorem rnew_any (n d : Nat) (w : World) (hn : n < 18446744073709551616) (hd : d < 18446744073709551616) :
    Calls Try.prog 10 #[.int .u64 n, .int .u64 d] w fun e w' => e = ans (Q.newR n d) ∧ Below w.heap.size w w' := by
  unfold Q.newR
  by_cases h : d = 0
  · subst h; rw [if_pos rfl]; exact rnew_bad n w
  · rw [if_neg h]; exact rnew_good n d _ _ w hn hd (by omega) rfl rfl

set_option maxHeartbeats 1000000 in
theorem plain_any (n d : Nat) (w : World) :
    Calls Try.prog 13 #[.agg #[.int .u64 n, .int .u64 d]] w fun e w' => e = .returned (.agg #[.int .u64 n, .int .u64 d]) ∧ Below w.heap.size w w' := by
  go_enter Try.func13, Try.ntmps13
  go_wp2_with fail
  go_returns
  refine ⟨rfl, ?_⟩
  go_grown

end Go.Proofs.Ytfcegoibelokpaa
