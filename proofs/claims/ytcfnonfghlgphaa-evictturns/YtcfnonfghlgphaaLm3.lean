/-
  The law EvictTurns.
-/
import Derived.Test.YtcfnonfghlgphaaRa2
import Derived.Test.YtcfnonfghlgphaaRa4
namespace Go.Proofs.Ytcfnonfghlgphaa
open Go.RowKit Go.Maps

theorem turR_len (L : List Vi) : (turR L).2.length ≤ L.length := by
  unfold turR
  split
  · show (List.map Vi.j (srtV L)).length ≤ _
    rw [List.length_map, (srtV_perm L).length_eq]
    exact Nat.le_refl _
  · exact Nat.zero_le _
set_option maxHeartbeats 4000000 in
set_option maxRecDepth 100000 in
theorem turns_law (q : Option Addr) (n c : Nat) (L : List Vi) (w : World) (hL : VA w q L) (hI : VIn L) (hl : L.length = n) (h63 : n ≤ 9223372036854775807) :
    Calls Try.prog 3 #[.slice q n c] w fun e w' => e = .returned (.bool true) ∧ Below w.heap.size w w' := by
  have H9 : Hid (∀ W, Calls Try.prog 9 #[] W fun e w' => e = .returned (.bool true) ∧ Below W.heap.size W w') := awake17
  by_cases h3 : 300 < n
  · have g1 : (300 : Int) < (n : Int) := by omega
    have g2 : decide ((300 : Int) < (n : Int)) = true := decide_eq_true g1
    go_enter Try.func3, Try.ntmps3
    go_upto_region 2 with (go_at_call 9; refine (H9.out _).mono ?_; rintro e w1 ⟨rfl, b1⟩)
    go_wp2_with (go_at_call 9; refine (H9.out _).mono ?_; rintro e w2 ⟨rfl, b2⟩)
    go_ret
    exact ⟨rfl, below_from b1 b2 b1.size⟩
  · have g1 : ¬ (300 : Int) < (n : Int) := by omega
    have g2 : decide ((300 : Int) < (n : Int)) = false := decide_eq_false g1
    have H10 : Hid (∀ W, Below w.heap.size w W → Calls Try.prog 10 #[.slice q n c] W fun e w' => ∃ p c', e = .returned (.tuple #[.slice p (turR L).2.length c', .int .i64 ((turR L).1 : Nat)]) ∧ Hid (GA 1 jC w' p (turR L).2 ∧ Below W.heap.size W w')) := fun W b => by
      refine (turns_all L q n c W (hL.below b) hI hl (by omega)).mono ?_
      rintro e w' ⟨p, k, c', rfl, hk, h⟩
      subst hk
      exact ⟨p, c', rfl, h.out.1.ga jC_len, h.out.2⟩
    have H12 : Hid (∀ W, Below w.heap.size w W → Calls Try.prog 12 #[.slice q n c] W fun e w' => ∃ p c', e = .returned (.slice p n c') ∧ Hid (VA w' p L ∧ Below W.heap.size W w')) := fun W b => by
      refine (vplain_any W q n c L hl (by omega) (hL.below b)).mono ?_
      rintro e w' ⟨p, c', rfl, h⟩
      exact ⟨p, c', rfl, h.out.1.ga viC_len, h.out.2⟩
    have H11 : Hid (∀ W p c', VA W p L → Calls Try.prog 11 #[.slice p n c'] W fun e w' => ∃ p2 c2, e = .returned (.tuple #[.slice p2 (turR L).2.length c2, .int .i64 ((turR L).1 : Nat)]) ∧ Hid (GA 1 jC w' p2 (turR L).2 ∧ Below W.heap.size W w')) := fun W p c' h => by
      refine (rturns_all W p n c' L hl (by omega) h).mono ?_
      rintro e w' ⟨p2, k, c2, rfl, hk, h⟩
      subst hk
      exact ⟨p2, c2, rfl, h.out.1.ga jC_len, h.out.2⟩
    have HJ : Hid ((turR L).2.length ≤ 1000000) := by have := turR_len L; show _ ≤ _; omega
    clear hL hI
    generalize (turR L).2 = J at *
    generalize (turR L).1 = en at *
    go_enter Try.func3, Try.ntmps3
    go_upto_region 3 with (go_at_call 9; refine (H9.out _).mono ?_; rintro e w1 ⟨rfl, b1⟩)
    go_upto_region 4 with (go_at_call 10; refine (H10.out _ b1).mono ?_; rintro e w2 ⟨p2, c2, rfl, h2⟩)
    have B2 : Hid (Below w.heap.size w w2) := below_from b1 h2.out.2 b1.size
    go_upto_region 5 with (first | (go_at_call 12; refine (H12.out _ B2.out).mono ?_; rintro e w3 ⟨p3, c3, rfl, h3⟩) | (go_at_call 11; refine (H11.out _ _ _ h3.out.1).mono ?_; rintro e w4 ⟨p4, c4, rfl, h4⟩))
    have b24 : Below w2.heap.size w2 w4 := below_from h3.out.2 h4.out.2 h3.out.2.size
    have B4 : Hid (Below w.heap.size w w4) := below_from B2.out b24 B2.out.size
    have H13 : Hid (Calls Try.prog 13 #[.slice p2 J.length c2, .slice p4 J.length c4] w4 fun e w' => e = .returned (.bool true) ∧ Hid (Below w4.heap.size w4 w')) := sames_any w4 J.length c2 c4 p2 p4 J (h2.out.1.below b24) h4.out.1 (rfl : _ = _) HJ.out
    clear h2 h3 h4 b24 H10 H11 H12 H9
    go_wp2_with (go_at_call 13; refine H13.out.mono ?_; rintro e w5 ⟨rfl, b5⟩)
    go_ret
    exact ⟨rfl, below_from B4.out b5.out B4.out.size⟩
end Go.Proofs.Ytcfnonfghlgphaa
