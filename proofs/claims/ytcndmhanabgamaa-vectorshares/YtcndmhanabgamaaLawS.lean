/-
  The walk of VectorShares.
-/
import Derived.Test.YtcndmhanabgamaaShB
namespace Go.Proofs.Ytcndmhanabgamaa
open Go.RowKit

set_option maxHeartbeats 4000000 in
theorem shares_at (a b c d e f g h wt x y k : Int) (w : World)
    (H22 : Hid (∀ w, Calls Try.prog 22 #[.agg #[.int .i64 a, .int .i64 b, .int .i64 c, .int .i64 d], .agg #[.int .i64 e, .int .i64 f, .int .i64 g, .int .i64 h], .int .i64 wt] w fun e w' => e = .returned (.tuple #[.agg #[.int .u64 x, .int .u64 y], .int .i64 k]) ∧ Below w.heap.size w w'))
    (H23 : Hid (∀ w, Calls Try.prog 23 #[.agg #[.int .i64 a, .int .i64 b, .int .i64 c, .int .i64 d], .agg #[.int .i64 e, .int .i64 f, .int .i64 g, .int .i64 h], .int .i64 wt] w fun e w' => e = .returned (.tuple #[.agg #[.int .u64 x, .int .u64 y], .int .i64 k]) ∧ Below w.heap.size w w')) :
    Calls Try.prog 6 #[.agg #[.int .i64 a, .int .i64 b, .int .i64 c, .int .i64 d], .agg #[.int .i64 e, .int .i64 f, .int .i64 g, .int .i64 h], .int .i64 wt] w fun r w' => r = .returned (.bool true) ∧ Below w.heap.size w w' := by
  go_enter Try.func6, Try.ntmps6
  go_wp2_with (first
    | (go_at_call 9; refine (awake_any _).mono ?_; rintro e w1 ⟨rfl, b1⟩; have p1 := at_below b1 (Nat.le_refl _) first0; have q1 := at_below b1 (Nat.le_refl _) first1; obtain ⟨pa0, pa1, pa2, pa3, pa4, pa5, pa6, pa7, pa8, pa9⟩ := cells4 p1; obtain ⟨qa0, qa1, qa2, qa3, qa4, qa5, qa6, qa7, qa8, qa9⟩ := cells4 q1; have y1 : Hid (Below w.heap.size w w1) := below_from (((Below.refl _ w).alloc (Nat.le_refl _) _).alloc (by simp) _) b1 (by simp; omega); clear b1)
    | (go_at_call 22; refine (H22.out _).mono ?_; rintro e w2 ⟨rfl, b2⟩; have p2 := at_below b2 (Nat.le_refl _) p1; have q2 := at_below b2 (Nat.le_refl _) q1; clear pa0 pa1 pa2 pa3 pa4 pa5 pa6 pa7 pa8 pa9 qa0 qa1 qa2 qa3 qa4 qa5 qa6 qa7 qa8 qa9; obtain ⟨pa0, pa1, pa2, pa3, pa4, pa5, pa6, pa7, pa8, pa9⟩ := cells4 p2; obtain ⟨qa0, qa1, qa2, qa3, qa4, qa5, qa6, qa7, qa8, qa9⟩ := cells4 q2; have y2 : Hid (Below w.heap.size w w2) := below_from y1.out b2 y1.out.size; clear b2 y1)
    | (go_at_call 23; refine (H23.out _).mono ?_; rintro e w3 ⟨rfl, b3⟩; have s3 := at_below b3 (Nat.le_refl _) new0; clear pa0 pa1 pa2 pa3 pa4 pa5 pa6 pa7 pa8 pa9 qa0 qa1 qa2 qa3 qa4 qa5 qa6 qa7 qa8 qa9; obtain ⟨s0, s1, sf0, sf1, ss, sn⟩ := cells2' s3; have y3 : Hid (Below w.heap.size w w3) := below_from (y2.out.alloc y2.out.size _) b3 (by have := y2.out.size; simp; omega); clear b3 y2))
  go_ret
  exact ⟨by simp, y3.out.alloc y3.out.size _⟩

theorem law_shares (a b c d e f g h wt : Int) (w : World) (_ : -9223372036854775808 ≤ wt ∧ wt ≤ 9223372036854775807) :
    Calls Try.prog 6 #[.agg #[.int .i64 a, .int .i64 b, .int .i64 c, .int .i64 d], .agg #[.int .i64 e, .int .i64 f, .int .i64 g, .int .i64 h], .int .i64 wt] w fun r w' => r = .returned (.bool true) ∧ Below w.heap.size w w' :=
  shares_at a b c d e f g h wt _ _ _ w (fun w => share_any ⟨a, b, c, d⟩ ⟨e, f, g, h⟩ wt w) (fun w => rshare_any ⟨a, b, c, d⟩ ⟨e, f, g, h⟩ wt w)

end Go.Proofs.Ytcndmhanabgamaa
