/-
  The walk of VectorReckons.
-/
import Derived.Test.YtcndmhanabgamaaLawA
namespace Go.Proofs.Ytcndmhanabgamaa
open Go.RowKit

theorem eq4_same (a b c d : Int) (w : World) : (Op.equalIn 10000 23 (.agg #[.int .i64 a, .int .i64 b, .int .i64 c, .int .i64 d]) (.agg #[.int .i64 a, .int .i64 b, .int .i64 c, .int .i64 d])).run Try.prog w = .ok true w := by
  rw [eq4]; simp

set_option maxHeartbeats 4000000 in
theorem reckons_at (a b c d e f g h x y z u k x' y' z' u' k' : Int) (w : World)
    (H16 : Hid (∀ w, Calls Try.prog 16 #[.agg #[.int .i64 a, .int .i64 b, .int .i64 c, .int .i64 d], .agg #[.int .i64 e, .int .i64 f, .int .i64 g, .int .i64 h]] w fun e w' => e = .returned (.tuple #[.agg #[.int .i64 x, .int .i64 y, .int .i64 z, .int .i64 u], .int .i64 k]) ∧ Below w.heap.size w w'))
    (H17 : Hid (∀ w, Calls Try.prog 17 #[.agg #[.int .i64 a, .int .i64 b, .int .i64 c, .int .i64 d], .agg #[.int .i64 e, .int .i64 f, .int .i64 g, .int .i64 h]] w fun e w' => e = .returned (.tuple #[.agg #[.int .i64 x, .int .i64 y, .int .i64 z, .int .i64 u], .int .i64 k]) ∧ Below w.heap.size w w'))
    (H18 : Hid (∀ w, Calls Try.prog 18 #[.agg #[.int .i64 a, .int .i64 b, .int .i64 c, .int .i64 d], .agg #[.int .i64 e, .int .i64 f, .int .i64 g, .int .i64 h]] w fun e w' => e = .returned (.tuple #[.agg #[.int .i64 x', .int .i64 y', .int .i64 z', .int .i64 u'], .int .i64 k']) ∧ Below w.heap.size w w'))
    (H19 : Hid (∀ w, Calls Try.prog 19 #[.agg #[.int .i64 a, .int .i64 b, .int .i64 c, .int .i64 d], .agg #[.int .i64 e, .int .i64 f, .int .i64 g, .int .i64 h]] w fun e w' => e = .returned (.tuple #[.agg #[.int .i64 x', .int .i64 y', .int .i64 z', .int .i64 u'], .int .i64 k']) ∧ Below w.heap.size w w')) :
    Calls Try.prog 4 #[.agg #[.int .i64 a, .int .i64 b, .int .i64 c, .int .i64 d], .agg #[.int .i64 e, .int .i64 f, .int .i64 g, .int .i64 h]] w fun r w' => r = .returned (.bool true) ∧ Below w.heap.size w w' := by
  have E1 := eq4_same x y z u
  have E2 := eq4_same x' y' z' u'
  go_enter Try.func4, Try.ntmps4
  go_wp2_with (first
    | (go_at_call 9; refine (awake_any _).mono ?_; rintro e w1 ⟨rfl, b1⟩; have p1 := at_below b1 (Nat.le_refl _) first0; have q1 := at_below b1 (Nat.le_refl _) first1; obtain ⟨pa0, pa1, pa2, pa3, pa4, pa5, pa6, pa7, pa8, pa9⟩ := cells4 p1; obtain ⟨qa0, qa1, qa2, qa3, qa4, qa5, qa6, qa7, qa8, qa9⟩ := cells4 q1; have y1 : Hid (Below w.heap.size w w1) := below_from (((Below.refl _ w).alloc (Nat.le_refl _) _).alloc (by simp) _) b1 (by simp; omega); clear b1)
    | (go_at_call 16; refine (H16.out _).mono ?_; rintro e w2 ⟨rfl, b2⟩; have p2 := at_below b2 (Nat.le_refl _) p1; have q2 := at_below b2 (Nat.le_refl _) q1; clear pa0 pa1 pa2 pa3 pa4 pa5 pa6 pa7 pa8 pa9 qa0 qa1 qa2 qa3 qa4 qa5 qa6 qa7 qa8 qa9; obtain ⟨pa0, pa1, pa2, pa3, pa4, pa5, pa6, pa7, pa8, pa9⟩ := cells4 p2; obtain ⟨qa0, qa1, qa2, qa3, qa4, qa5, qa6, qa7, qa8, qa9⟩ := cells4 q2; have y2 : Hid (Below w.heap.size w w2) := below_from y1.out b2 y1.out.size; clear b2 y1)
    | (go_at_call 17; refine (H17.out _).mono ?_; rintro e w3 ⟨rfl, b3⟩; have p3 := at_below b3 (Nat.le_refl _) (at_alloc p2); have q3 := at_below b3 (Nat.le_refl _) (at_alloc q2); have s3 := at_below b3 (Nat.le_refl _) new0; clear pa0 pa1 pa2 pa3 pa4 pa5 pa6 pa7 pa8 pa9 qa0 qa1 qa2 qa3 qa4 qa5 qa6 qa7 qa8 qa9; obtain ⟨pa0, pa1, pa2, pa3, pa4, pa5, pa6, pa7, pa8, pa9⟩ := cells4 p3; obtain ⟨qa0, qa1, qa2, qa3, qa4, qa5, qa6, qa7, qa8, qa9⟩ := cells4 q3; have y3 : Hid (Below w.heap.size w w3) := below_from (y2.out.alloc y2.out.size _) b3 (by have := y2.out.size; simp; omega); clear b3 y2)
    | (go_at_call 18; refine (H18.out _).mono ?_; rintro e w4 ⟨rfl, b4⟩; have p4 := at_below b4 (Nat.le_refl _) (at_alloc p3); have q4 := at_below b4 (Nat.le_refl _) (at_alloc q3); have s4 := at_below b4 (Nat.le_refl _) (at_alloc s3); have t4 := at_below b4 (Nat.le_refl _) new0; clear pa0 pa1 pa2 pa3 pa4 pa5 pa6 pa7 pa8 pa9 qa0 qa1 qa2 qa3 qa4 qa5 qa6 qa7 qa8 qa9; obtain ⟨pa0, pa1, pa2, pa3, pa4, pa5, pa6, pa7, pa8, pa9⟩ := cells4 p4; obtain ⟨qa0, qa1, qa2, qa3, qa4, qa5, qa6, qa7, qa8, qa9⟩ := cells4 q4; have y4 : Hid (Below w.heap.size w w4) := below_from (y3.out.alloc y3.out.size _) b4 (by have := y3.out.size; simp; omega); clear b4 y3)
    | (go_at_call 19; refine (H19.out _).mono ?_; rintro e w5 ⟨rfl, b5⟩; have s5 := at_below b5 (Nat.le_refl _) (at_alloc s4); have t5 := at_below b5 (Nat.le_refl _) (at_alloc t4); have u5 := at_below b5 (Nat.le_refl _) new0; clear pa0 pa1 pa2 pa3 pa4 pa5 pa6 pa7 pa8 pa9 qa0 qa1 qa2 qa3 qa4 qa5 qa6 qa7 qa8 qa9; obtain ⟨pa0, pa1, pa2, pa3, pa4, pa5, pa6, pa7, pa8, pa9⟩ := cells4 s5; obtain ⟨qa0, qa1, qa2, qa3, qa4, qa5, qa6, qa7, qa8, qa9⟩ := cells4 t5; obtain ⟨ra0, ra1, ra2, ra3, ra4, ra5, ra6, ra7, ra8, ra9⟩ := cells4 u5; have y5 : Hid (Below w.heap.size w w5) := below_from (y4.out.alloc y4.out.size _) b5 (by have := y4.out.size; simp; omega); clear b5 y4))
  go_ret
  exact ⟨rfl, y5.out.alloc y5.out.size _⟩

theorem law_reckons (a b c d e f g h : Int) (w : World) :
    Calls Try.prog 4 #[.agg #[.int .i64 a, .int .i64 b, .int .i64 c, .int .i64 d], .agg #[.int .i64 e, .int .i64 f, .int .i64 g, .int .i64 h]] w fun r w' => r = .returned (.bool true) ∧ Below w.heap.size w w' :=
  reckons_at a b c d e f g h _ _ _ _ _ _ _ _ _ _ w (fun w => add_any a b c d e f g h w) (fun w => radd_any a b c d e f g h w) (fun w => sub_any a b c d e f g h w) (fun w => rsub_any a b c d e f g h w)

end Go.Proofs.Ytcndmhanabgamaa
