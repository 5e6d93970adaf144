/-
  Records as bytes: Encode and Formed of the program, over what the record is made anew to; SameBytes.
-/
import Derived.Test.YtnkkiepoljbhlaaEnk
set_option linter.unusedSimpArgs false
namespace Go.Proofs.Ytnkkiepoljbhlaa
open Go.RowKit

theorem Bw.low {B B' : Nat} {w w1 : World} (h : Bw B w w1) (hB : B' ≤ B) : Bw B' w w1 := ⟨h.b.mono hB, h.n⟩

section
variable (v : Value) (w : World) (Q : Value → World → Prop)
  (H20 : Calls Try.prog 20 #[v] w fun e w' => ∃ r, e = .returned r ∧ Below w.heap.size w w' ∧ Q r w')
set_option maxHeartbeats 400000 in
include H20 in
theorem enc_no (H21 : ∀ r W, Q r W → Calls Try.prog 21 #[r] W fun e w' => e = .returned (.bool false) ∧ Below W.heap.size W w') :
    Calls Try.prog 10 #[v] w fun e w' => e = .returned (.tuple #[.slice none 0 0, .int .i64 4]) ∧ Below w.heap.size w w' := by
  have K20 : Hid (Calls Try.prog 20 #[v] w fun e w' => ∃ r, e = .returned r ∧ Hid (Below w.heap.size w w' ∧ Q r w')) := H20
  have K21 : Hid (∀ r W, Q r W → Calls Try.prog 21 #[r] W fun e w' => e = .returned (.bool false) ∧ Hid (Below W.heap.size W w')) := H21
  clear H20 H21
  go_enter Try.func10, Try.ntmps10
  go_wp2_with (first
    | (go_at_call 20; refine K20.out.mono ?_; rintro e w1 ⟨r, rfl, b1⟩)
    | (go_at_call 21; refine (K21.out _ _ b1.out.2).mono ?_; rintro e w2 ⟨rfl, b2⟩))
  go_ret2
  exact ⟨rfl, below_from b1.out.1 b2.out b1.out.1.size⟩
set_option maxHeartbeats 400000 in
include H20 in
theorem enc_yes (l : List UInt8) (H21 : ∀ r W, Q r W → Calls Try.prog 21 #[r] W fun e w' => e = .returned (.bool true) ∧ Below W.heap.size W w')
    (H22 : ∀ r W W', Q r W → Below W.heap.size W W' → Calls Try.prog 22 #[r] W' fun e w' => ∃ q' k' c', e = .returned (.slice q' k' c') ∧ Own w' W'.heap.size (.slice q' k' c') l ∧ Bw W'.heap.size W' w') :
    Calls Try.prog 10 #[v] w fun e w' => ∃ q' k' c', e = .returned (.tuple #[.slice q' k' c', .int .i64 0]) ∧ Own w' w.heap.size (.slice q' k' c') l ∧ Below w.heap.size w w' := by
  have K20 : Hid (Calls Try.prog 20 #[v] w fun e w' => ∃ r, e = .returned r ∧ Hid (Below w.heap.size w w' ∧ Q r w')) := H20
  have K21 : Hid (∀ r W, Q r W → Calls Try.prog 21 #[r] W fun e w' => e = .returned (.bool true) ∧ Hid (Below W.heap.size W w')) := H21
  have K22 : Hid (∀ r W W', Q r W → Below W.heap.size W W' → Calls Try.prog 22 #[r] W' fun e w' => ∃ q' k' c', e = .returned (.slice q' k' c') ∧ Hid (Own w' W'.heap.size (.slice q' k' c') l ∧ Bw W'.heap.size W' w')) := H22
  clear H20 H21 H22
  go_enter Try.func10, Try.ntmps10
  go_wp2_with (first
    | (go_at_call 20; refine K20.out.mono ?_; rintro e w1 ⟨r, rfl, b1⟩)
    | (go_at_call 21; refine (K21.out _ _ b1.out.2).mono ?_; rintro e w2 ⟨rfl, b2⟩)
    | (go_at_call 22; refine (K22.out _ _ _ b1.out.2 b2.out).mono ?_; rintro e w3 ⟨q3, k3, c3, rfl, o3⟩))
  go_ret2
  have y2 := below_from b1.out.1 b2.out b1.out.1.size
  exact ⟨q3, k3, c3, rfl, o3.out.1.low y2.size, below_from y2 o3.out.2.b y2.size⟩
set_option maxHeartbeats 400000 in
include H20 in
theorem form_is (x : Bool) (H21 : ∀ r W, Q r W → Calls Try.prog 21 #[r] W fun e w' => e = .returned (.bool x) ∧ Below W.heap.size W w') :
    Calls Try.prog 13 #[v] w fun e w' => e = .returned (.bool x) ∧ Below w.heap.size w w' := by
  have K20 : Hid (Calls Try.prog 20 #[v] w fun e w' => ∃ r, e = .returned r ∧ Hid (Below w.heap.size w w' ∧ Q r w')) := H20
  have K21 : Hid (∀ r W, Q r W → Calls Try.prog 21 #[r] W fun e w' => e = .returned (.bool x) ∧ Hid (Below W.heap.size W w')) := H21
  clear H20 H21
  go_enter Try.func13, Try.ntmps13
  go_wp2_with (first
    | (go_at_call 20; refine K20.out.mono ?_; rintro e w1 ⟨r, rfl, b1⟩)
    | (go_at_call 21; refine (K21.out _ _ b1.out.2).mono ?_; rintro e w2 ⟨rfl, b2⟩))
  go_ret
  exact ⟨rfl, below_from b1.out.1 b2.out b1.out.1.size⟩
end
end Go.Proofs.Ytnkkiepoljbhlaa
