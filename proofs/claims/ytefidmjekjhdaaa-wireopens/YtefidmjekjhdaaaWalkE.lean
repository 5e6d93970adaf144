/-
  The contracts of bytes.Clone and of Open, the program's and the reference's.
-/
import Derived.Test.YtefidmjekjhdaaaWalkD
namespace Go.Proofs.Ytefidmjekjhdaaa
open Go.RowKit

theorem own_empty {w : World} {B : Nat} (hB : B ≤ w.heap.size) : Own (w.alloc (.cells #[] 5)) B (.slice (some ⟨w.heap.size, 0, none⟩) 0 0) [] :=
  ⟨rfl, .inr ⟨w.heap.size, 0, #[], rfl, hB, new0, Nat.le_refl _, by decide, rfl, rfl⟩⟩

theorem eql_some (ad : Addr) (n c : Nat) : ∀ w, (binOp .eql 22 (.slice (some ad) n c) (.slice none 0 0)).run Try.prog w = .ok (.bool false) w := fun _ => by kernel_rfl
theorem eql_none : ∀ w, (binOp .eql 22 (.slice none 0 0) (.slice none 0 0)).run Try.prog w = .ok (.bool true) w := fun _ => by kernel_rfl

set_option maxHeartbeats 400000 in
set_option maxRecDepth 100000 in
theorem clone_at (l : List UInt8) (ad : Addr) (c n : Nat) (w : World) (hn : Hid (l.length = n)) (hle : n ≤ 140737488355328) (ha : Hid (Lies w (some ad) l)) :
    Calls Try.prog 19 #[.slice (some ad) n c] w fun e w' => ∃ v, e = .returned v ∧ Own w' w.heap.size v l ∧ Below w.heap.size w w' := by
  have he := eql_some ad n c
  go_enter Try.func19, Try.ntmps19
  go_wp2_with (at_builtin; refine append_bytes (w := w.alloc (.cells #[] 5)) rfl _ _ rfl w.heap.size (.slice (some ⟨w.heap.size, 0, none⟩) 0 0) [] l rfl (own_empty (Nat.le_refl _)) (some ad) c n rfl hn.out (fun e => by cases e) (ha.out.keep ((Below.refl _ w).alloc (Nat.le_refl _) _) (Nat.le_refl _)) (by rw [hn.out]; simp; omega) (by simp) ?_; intro v' w4 h1 h2)
  go_ret
  exact ⟨v', rfl, h1, ((Below.refl _ w).alloc (Nat.le_refl _) _).trans h2⟩

set_option maxHeartbeats 400000 in
set_option maxRecDepth 100000 in
theorem clone_none (w : World) :
    Calls Try.prog 19 #[.slice none 0 0] w fun e w' => e = .returned (.slice none 0 0) ∧ w' = w := by
  have he := eql_none
  go_enter Try.func19, Try.ntmps19
  go_wp2_with fail
  go_ret
  exact ⟨rfl, rfl⟩

theorem clone_any (l : List UInt8) (a : Option Addr) (c : Nat) (w : World) (hle : l.length ≤ 140737488355328) (ha : Lies w a l) (hc : a = none → c = 0) :
    Calls Try.prog 19 #[.slice a l.length c] w fun e w' => ∃ q c', e = .returned (.slice q l.length c') ∧ Own w' w.heap.size (.slice q l.length c') l ∧ Below w.heap.size w w' := by
  cases a with
  | none =>
    obtain rfl : l = [] := by
      rcases ha with h | ⟨g, o, e, _⟩
      · exact h
      · cases e
    obtain rfl := hc rfl
    refine (clone_none w).mono ?_
    rintro e w' ⟨rfl, rfl⟩
    exact ⟨none, 0, rfl, Own.nil _ _, Below.refl _ _⟩
  | some ad =>
    refine (clone_at l ad c l.length w rfl hle ha).mono ?_
    rintro e w' ⟨v, rfl, h1, h2⟩
    obtain ⟨q, c', rfl, _⟩ := h1.shape
    exact ⟨q, c', rfl, h1, h2⟩

/-! ### Open -/
set_option maxHeartbeats 400000 in
theorem open_short (a : Option Addr) (c n : Nat) (w : World) (hn : (n : Int) < 8) :
    Calls Try.prog 9 #[.slice a n c] w fun e w' => e = .returned (.tuple #[.slice none 0 0, .slice none 0 0, .int .i64 12]) ∧ w' = w := by
  go_enter Try.func9, Try.ntmps9
  go_wp2_with fail
  go_ret3
  exact ⟨rfl, rfl⟩
set_option maxHeartbeats 400000 in
theorem ropen_short (a : Option Addr) (c n : Nat) (w : World) (hn : (n : Int) < 8) :
    Calls Try.prog 10 #[.slice a n c] w fun e w' => e = .returned (.tuple #[.slice none 0 0, .slice none 0 0, .int .i64 12]) ∧ w' = w := by
  go_enter Try.func10, Try.ntmps10
  go_wp2_with fail
  go_ret3
  exact ⟨rfl, rfl⟩

set_option maxHeartbeats 1000000 in
theorem open_size (g o c n m : Nat) (w : World) (hn : 8 ≤ n) (hm : m < 4294967296) (h : 4096 < (m : Int) ∨ ((m : Int) ≤ 4096 ∧ (n : Int) - 8 < (m : Int)))
    (H : Hid (∀ w, Calls Try.prog 18 #[.slice (some ⟨g, o, none⟩) n c] w fun e w' => e = .returned (.int .u32 m) ∧ ∃ k, w' = w.drewN k)) :
    Calls Try.prog 9 #[.slice (some ⟨g, o, none⟩) n c] w fun e w' => e = .returned (.tuple #[.slice none 0 0, .slice none 0 0, .int .i64 12]) ∧ ∃ k, w' = w.drewN k := by
  rcases h with h | ⟨h, h'⟩
  all_goals go_enter Try.func9, Try.ntmps9
  all_goals go_wp2_with (go_at_call 18; refine (H.out _).mono ?_; rintro e w1 ⟨rfl, k1, rfl⟩)
  all_goals go_ret3
  all_goals exact ⟨rfl, _, rfl⟩

end Go.Proofs.Ytefidmjekjhdaaa
