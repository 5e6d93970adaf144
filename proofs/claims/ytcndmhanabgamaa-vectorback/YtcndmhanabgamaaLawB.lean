/-
  The walk of VectorBack.
-/
import Derived.Test.YtcndmhanabgamaaLawR
namespace Go.Proofs.Ytcndmhanabgamaa
open Go.RowKit

set_option maxHeartbeats 4000000 in
theorem back_bad (a b c d e f g h k : Int) (x1 x2 : Bool) (w : World) (hk : (x1 = false ∧ k = 4) ∨ (x1 = true ∧ x2 = false ∧ k = 4) ∨ (x1 = true ∧ x2 = true ∧ k = 7))
    (A1 : Hid (∀ w, Calls Try.prog 16 #[.agg #[.int .i64 a, .int .i64 b, .int .i64 c, .int .i64 d], .agg #[.int .i64 e, .int .i64 f, .int .i64 g, .int .i64 h]] w fun e w' => e = .returned (.tuple #[.agg #[.int .i64 0, .int .i64 0, .int .i64 0, .int .i64 0], .int .i64 k]) ∧ Below w.heap.size w w'))
    (A2 : Hid (∀ w, Calls Try.prog 16 #[.agg #[.int .i64 e, .int .i64 f, .int .i64 g, .int .i64 h], .agg #[.int .i64 a, .int .i64 b, .int .i64 c, .int .i64 d]] w fun e w' => e = .returned (.tuple #[.agg #[.int .i64 0, .int .i64 0, .int .i64 0, .int .i64 0], .int .i64 k]) ∧ Below w.heap.size w w'))
    (F1 : Hid (∀ w, Calls Try.prog 10 #[.agg #[.int .i64 a, .int .i64 b, .int .i64 c, .int .i64 d]] w fun e w' => e = .returned (.bool x1) ∧ Below w.heap.size w w'))
    (F2 : Hid (∀ w, Calls Try.prog 10 #[.agg #[.int .i64 e, .int .i64 f, .int .i64 g, .int .i64 h]] w fun e w' => e = .returned (.bool x2) ∧ Below w.heap.size w w')) :
    Calls Try.prog 7 #[.agg #[.int .i64 a, .int .i64 b, .int .i64 c, .int .i64 d], .agg #[.int .i64 e, .int .i64 f, .int .i64 g, .int .i64 h]] w fun r w' => r = .returned (.bool true) ∧ Below w.heap.size w w' := by
  have E1 := eq4_same 0 0 0 0
  rcases hk with ⟨rfl, rfl⟩ | ⟨rfl, rfl, rfl⟩ | ⟨rfl, rfl, rfl⟩
  all_goals go_enter Try.func7, Try.ntmps7
  all_goals go_wp2_with (first
    | (go_at_call 9; refine (awake_any _).mono ?_; rintro e w1 ⟨rfl, b1⟩; have p1 := at_below b1 (Nat.le_refl _) first0; have q1 := at_below b1 (Nat.le_refl _) first1; obtain ⟨pa0, pa1, pa2, pa3, pa4, pa5, pa6, pa7, pa8, pa9⟩ := cells4 p1; obtain ⟨qa0, qa1, qa2, qa3, qa4, qa5, qa6, qa7, qa8, qa9⟩ := cells4 q1; have y1 : Hid (Below w.heap.size w w1) := below_from (((Below.refl _ w).alloc (Nat.le_refl _) _).alloc (by simp) _) b1 (by simp; omega); clear b1)
    | (go_at_call_of 16 #[Value.agg #[.int .i64 a, .int .i64 b, .int .i64 c, .int .i64 d], Value.agg #[.int .i64 e, .int .i64 f, .int .i64 g, .int .i64 h]]; refine (A1.out _).mono ?_; rintro e w2 ⟨rfl, b2⟩; have p2 := at_below b2 (Nat.le_refl _) p1; have q2 := at_below b2 (Nat.le_refl _) q1; clear pa0 pa1 pa2 pa3 pa4 pa5 pa6 pa7 pa8 pa9 qa0 qa1 qa2 qa3 qa4 qa5 qa6 qa7 qa8 qa9; obtain ⟨pa0, pa1, pa2, pa3, pa4, pa5, pa6, pa7, pa8, pa9⟩ := cells4 p2; obtain ⟨qa0, qa1, qa2, qa3, qa4, qa5, qa6, qa7, qa8, qa9⟩ := cells4 q2; have y2 : Hid (Below w.heap.size w w2) := below_from y1.out b2 y1.out.size; clear b2 y1)
    | (go_at_call_of 16 #[Value.agg #[.int .i64 e, .int .i64 f, .int .i64 g, .int .i64 h], Value.agg #[.int .i64 a, .int .i64 b, .int .i64 c, .int .i64 d]]; refine (A2.out _).mono ?_; rintro e w3 ⟨rfl, b3⟩; have p3 := at_below b3 (Nat.le_refl _) (at_alloc p2); have q3 := at_below b3 (Nat.le_refl _) (at_alloc q2); have s3 := at_below b3 (Nat.le_refl _) new0; clear pa0 pa1 pa2 pa3 pa4 pa5 pa6 pa7 pa8 pa9 qa0 qa1 qa2 qa3 qa4 qa5 qa6 qa7 qa8 qa9; obtain ⟨pa0, pa1, pa2, pa3, pa4, pa5, pa6, pa7, pa8, pa9⟩ := cells4 p3; obtain ⟨qa0, qa1, qa2, qa3, qa4, qa5, qa6, qa7, qa8, qa9⟩ := cells4 q3; obtain ⟨sa0, sa1, sa2, sa3, sa4, sa5, sa6, sa7, sa8, sa9⟩ := cells4 s3; have y3 : Hid (Below w.heap.size w w3) := below_from (y2.out.alloc y2.out.size _) b3 (by have := y2.out.size; simp; omega); clear b3 y2)
    | (go_at_call_of 10 (Value.agg #[.int .i64 a, .int .i64 b, .int .i64 c, .int .i64 d]); refine (F1.out _).mono ?_; rintro e w4 ⟨rfl, b4⟩; have q4 := at_below b4 (Nat.le_refl _) (at_alloc q3); obtain ⟨ra0, ra1, ra2, ra3, ra4, ra5, ra6, ra7, ra8, ra9⟩ := cells4 q4; have y4 : Hid (Below w.heap.size w w4) := below_from (y3.out.alloc y3.out.size _) b4 (by have := y3.out.size; simp; omega); clear b4 y3)
    | (go_at_call_of 10 (Value.agg #[.int .i64 e, .int .i64 f, .int .i64 g, .int .i64 h]); refine (F2.out _).mono ?_; rintro e w5 ⟨rfl, b5⟩; have y5 : Hid (Below w.heap.size w w5) := below_from y4.out b5 y4.out.size; clear b5 y4))
  · go_ret
    exact ⟨rfl, y4.out⟩
  · go_ret
    exact ⟨rfl, y5.out⟩
  · go_ret
    exact ⟨rfl, y5.out⟩

set_option maxHeartbeats 4000000 in
theorem back_good (a b c d e f g h x y z u : Int) (w : World)
    (A1 : Hid (∀ w, Calls Try.prog 16 #[.agg #[.int .i64 a, .int .i64 b, .int .i64 c, .int .i64 d], .agg #[.int .i64 e, .int .i64 f, .int .i64 g, .int .i64 h]] w fun e w' => e = .returned (.tuple #[.agg #[.int .i64 x, .int .i64 y, .int .i64 z, .int .i64 u], .int .i64 0]) ∧ Below w.heap.size w w'))
    (A2 : Hid (∀ w, Calls Try.prog 16 #[.agg #[.int .i64 e, .int .i64 f, .int .i64 g, .int .i64 h], .agg #[.int .i64 a, .int .i64 b, .int .i64 c, .int .i64 d]] w fun e w' => e = .returned (.tuple #[.agg #[.int .i64 x, .int .i64 y, .int .i64 z, .int .i64 u], .int .i64 0]) ∧ Below w.heap.size w w'))
    (S1 : Hid (∀ w, Calls Try.prog 18 #[.agg #[.int .i64 x, .int .i64 y, .int .i64 z, .int .i64 u], .agg #[.int .i64 e, .int .i64 f, .int .i64 g, .int .i64 h]] w fun e w' => e = .returned (.tuple #[.agg #[.int .i64 a, .int .i64 b, .int .i64 c, .int .i64 d], .int .i64 0]) ∧ Below w.heap.size w w'))
    (T1 : Hid (∀ w, Calls Try.prog 12 #[.agg #[.int .i64 a, .int .i64 b, .int .i64 c, .int .i64 d], .agg #[.int .i64 x, .int .i64 y, .int .i64 z, .int .i64 u]] w fun e w' => e = .returned (.bool true) ∧ Below w.heap.size w w'))
    (T2 : Hid (∀ w, Calls Try.prog 12 #[.agg #[.int .i64 e, .int .i64 f, .int .i64 g, .int .i64 h], .agg #[.int .i64 x, .int .i64 y, .int .i64 z, .int .i64 u]] w fun e w' => e = .returned (.bool true) ∧ Below w.heap.size w w'))
    (F1 : Hid (∀ w, Calls Try.prog 10 #[.agg #[.int .i64 x, .int .i64 y, .int .i64 z, .int .i64 u]] w fun e w' => e = .returned (.bool true) ∧ Below w.heap.size w w')) :
    Calls Try.prog 7 #[.agg #[.int .i64 a, .int .i64 b, .int .i64 c, .int .i64 d], .agg #[.int .i64 e, .int .i64 f, .int .i64 g, .int .i64 h]] w fun r w' => r = .returned (.bool true) ∧ Below w.heap.size w w' := by
  have E1 := eq4_same x y z u
  have E2 := eq4_same a b c d
  go_enter Try.func7, Try.ntmps7
  go_wp2_with (first
    | (go_at_call 9; refine (awake_any _).mono ?_; rintro e w1 ⟨rfl, b1⟩; have p1 := at_below b1 (Nat.le_refl _) first0; have q1 := at_below b1 (Nat.le_refl _) first1; obtain ⟨pa0, pa1, pa2, pa3, pa4, pa5, pa6, pa7, pa8, pa9⟩ := cells4 p1; obtain ⟨qa0, qa1, qa2, qa3, qa4, qa5, qa6, qa7, qa8, qa9⟩ := cells4 q1; have y1 : Hid (Below w.heap.size w w1) := below_from (((Below.refl _ w).alloc (Nat.le_refl _) _).alloc (by simp) _) b1 (by simp; omega); clear b1)
    | (go_at_call_of 16 #[Value.agg #[.int .i64 a, .int .i64 b, .int .i64 c, .int .i64 d], Value.agg #[.int .i64 e, .int .i64 f, .int .i64 g, .int .i64 h]]; refine (A1.out _).mono ?_; rintro e w2 ⟨rfl, b2⟩; have p2 := at_below b2 (Nat.le_refl _) p1; have q2 := at_below b2 (Nat.le_refl _) q1; clear pa0 pa1 pa2 pa3 pa4 pa5 pa6 pa7 pa8 pa9 qa0 qa1 qa2 qa3 qa4 qa5 qa6 qa7 qa8 qa9; obtain ⟨pa0, pa1, pa2, pa3, pa4, pa5, pa6, pa7, pa8, pa9⟩ := cells4 p2; obtain ⟨qa0, qa1, qa2, qa3, qa4, qa5, qa6, qa7, qa8, qa9⟩ := cells4 q2; have y2 : Hid (Below w.heap.size w w2) := below_from y1.out b2 y1.out.size; clear b2 y1)
    | (go_at_call_of 16 #[Value.agg #[.int .i64 e, .int .i64 f, .int .i64 g, .int .i64 h], Value.agg #[.int .i64 a, .int .i64 b, .int .i64 c, .int .i64 d]]; refine (A2.out _).mono ?_; rintro e w3 ⟨rfl, b3⟩; have p3 := at_below b3 (Nat.le_refl _) (at_alloc p2); have q3 := at_below b3 (Nat.le_refl _) (at_alloc q2); have s3 := at_below b3 (Nat.le_refl _) new0; clear pa0 pa1 pa2 pa3 pa4 pa5 pa6 pa7 pa8 pa9 qa0 qa1 qa2 qa3 qa4 qa5 qa6 qa7 qa8 qa9; obtain ⟨pa0, pa1, pa2, pa3, pa4, pa5, pa6, pa7, pa8, pa9⟩ := cells4 p3; obtain ⟨qa0, qa1, qa2, qa3, qa4, qa5, qa6, qa7, qa8, qa9⟩ := cells4 q3; obtain ⟨sa0, sa1, sa2, sa3, sa4, sa5, sa6, sa7, sa8, sa9⟩ := cells4 s3; have y3 : Hid (Below w.heap.size w w3) := below_from (y2.out.alloc y2.out.size _) b3 (by have := y2.out.size; simp; omega); clear b3 y2)
    | (go_at_call 18; refine (S1.out _).mono ?_; rintro e w4 ⟨rfl, b4⟩; have p4 := at_below b4 (Nat.le_refl _) (at_alloc p3); have q4 := at_below b4 (Nat.le_refl _) (at_alloc q3); have s4 := at_below b4 (Nat.le_refl _) (at_alloc s3); clear pa0 pa1 pa2 pa3 pa4 pa5 pa6 pa7 pa8 pa9 qa0 qa1 qa2 qa3 qa4 qa5 qa6 qa7 qa8 qa9 sa0 sa1 sa2 sa3 sa4 sa5 sa6 sa7 sa8 sa9; obtain ⟨pa0, pa1, pa2, pa3, pa4, pa5, pa6, pa7, pa8, pa9⟩ := cells4 p4; obtain ⟨qa0, qa1, qa2, qa3, qa4, qa5, qa6, qa7, qa8, qa9⟩ := cells4 q4; obtain ⟨sa0, sa1, sa2, sa3, sa4, sa5, sa6, sa7, sa8, sa9⟩ := cells4 s4; have y4 : Hid (Below w.heap.size w w4) := below_from (y3.out.alloc y3.out.size _) b4 (by have := y3.out.size; simp; omega); clear b4 y3)
    | (go_at_call_of 12 (Value.agg #[.int .i64 a, .int .i64 b, .int .i64 c, .int .i64 d]); refine (T1.out _).mono ?_; rintro e w5 ⟨rfl, b5⟩; have q5 := at_below b5 (Nat.le_refl _) (at_alloc q4); have s5 := at_below b5 (Nat.le_refl _) (at_alloc s4); clear pa0 pa1 pa2 pa3 pa4 pa5 pa6 pa7 pa8 pa9 qa0 qa1 qa2 qa3 qa4 qa5 qa6 qa7 qa8 qa9 sa0 sa1 sa2 sa3 sa4 sa5 sa6 sa7 sa8 sa9; obtain ⟨qa0, qa1, qa2, qa3, qa4, qa5, qa6, qa7, qa8, qa9⟩ := cells4 q5; obtain ⟨sa0, sa1, sa2, sa3, sa4, sa5, sa6, sa7, sa8, sa9⟩ := cells4 s5; have y5 : Hid (Below w.heap.size w w5) := below_from (y4.out.alloc y4.out.size _) b5 (by have := y4.out.size; simp; omega); clear b5 y4)
    | (go_at_call_of 12 (Value.agg #[.int .i64 e, .int .i64 f, .int .i64 g, .int .i64 h]); refine (T2.out _).mono ?_; rintro e w6 ⟨rfl, b6⟩; have s6 := at_below b6 (Nat.le_refl _) s5; clear qa0 qa1 qa2 qa3 qa4 qa5 qa6 qa7 qa8 qa9 sa0 sa1 sa2 sa3 sa4 sa5 sa6 sa7 sa8 sa9; obtain ⟨sa0, sa1, sa2, sa3, sa4, sa5, sa6, sa7, sa8, sa9⟩ := cells4 s6; have y6 : Hid (Below w.heap.size w w6) := below_from y5.out b6 y5.out.size; clear b6 y5)
    | (go_at_call 10; refine (F1.out _).mono ?_; rintro e w7 ⟨rfl, b7⟩; have y7 : Hid (Below w.heap.size w w7) := below_from y6.out b7 y6.out.size; clear b7 y6))
  go_ret
  exact ⟨rfl, y7.out⟩

theorem V.add_comm (v u : V) : v.add u = u.add v := by
  unfold V.add; simp only [Int.add_comm]

theorem law_back (a b c d e f g h : Int) (w : World) :
    Calls Try.prog 7 #[.agg #[.int .i64 a, .int .i64 b, .int .i64 c, .int .i64 d], .agg #[.int .i64 e, .int .i64 f, .int .i64 g, .int .i64 h]] w fun r w' => r = .returned (.bool true) ∧ Below w.heap.size w w' := by
  have A1 := add_any a b c d e f g h
  have A2 := add_any e f g h a b c d
  have F1 := formed_any a b c d
  have F2 := formed_any e f g h
  unfold addR at A1 A2
  rw [V.add_comm ⟨e, f, g, h⟩] at A2
  by_cases h1 : fm a b c d = true
  · by_cases h2 : fm e f g h = true
    · have o1 := okV (v := ⟨a, b, c, d⟩) h1
      have o2 := okV (v := ⟨e, f, g, h⟩) h2
      simp only [] at o1 o2
      rw [if_pos (by simp [V.ok, h1, h2])] at A1 A2
      by_cases h3 : (V.add ⟨a, b, c, d⟩ ⟨e, f, g, h⟩).ok = true
      · rw [if_pos h3] at A1 A2
        have S1 := sub_any (a + e) (b + f) (c + g) (d + h) e f g h
        unfold subR at S1
        have hs : V.sub ⟨a + e, b + f, c + g, d + h⟩ ⟨e, f, g, h⟩ = ⟨a, b, c, d⟩ := by unfold V.sub; simp
        have h3' : V.ok ⟨a + e, b + f, c + g, d + h⟩ = true := h3
        have h1' : V.ok ⟨a, b, c, d⟩ = true := h1
        have h2' : V.ok ⟨e, f, g, h⟩ = true := h2
        rw [hs, h3', h2', h1', if_pos rfl, if_pos (show (true && true) = true from rfl)] at S1
        have T1 := fits_any a b c d (a + e) (b + f) (c + g) (d + h)
        have T2 := fits_any e f g h (a + e) (b + f) (c + g) (d + h)
        have F3 := formed_any (a + e) (b + f) (c + g) (d + h)
        rw [show ft a b c d (a + e) (b + f) (c + g) (d + h) = true by unfold ft; simp; omega] at T1
        rw [show ft e f g h (a + e) (b + f) (c + g) (d + h) = true by unfold ft; simp; omega] at T2
        rw [show fm (a + e) (b + f) (c + g) (d + h) = true from h3] at F3
        exact back_good a b c d e f g h (a + e) (b + f) (c + g) (d + h) w (fun w => A1 w) (fun w => A2 w) (fun w => S1 w) (fun w => T1 w) (fun w => T2 w) (fun w => F3 w)
      · rw [if_neg h3] at A1 A2
        exact back_bad a b c d e f g h 7 _ _ w (.inr (.inr ⟨h1, h2, rfl⟩)) (fun w => A1 w) (fun w => A2 w) (fun w => F1 w) (fun w => F2 w)
    · rw [if_neg (by simp [V.ok, h2])] at A1 A2
      exact back_bad a b c d e f g h 4 _ _ w (.inr (.inl ⟨h1, Bool.eq_false_iff.2 h2, rfl⟩)) (fun w => A1 w) (fun w => A2 w) (fun w => F1 w) (fun w => F2 w)
  · rw [if_neg (by simp [V.ok, h1])] at A1 A2
    exact back_bad a b c d e f g h 4 _ _ w (.inl ⟨Bool.eq_false_iff.2 h1, rfl⟩) (fun w => A1 w) (fun w => A2 w) (fun w => F1 w) (fun w => F2 w)

end Go.Proofs.Ytcndmhanabgamaa
