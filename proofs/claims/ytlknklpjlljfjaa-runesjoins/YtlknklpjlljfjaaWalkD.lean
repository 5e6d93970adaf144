/-
  The contracts of step and said, and of the program's Words: it answers what 'Txt.words' says, in new memory.
-/
import Derived.Test.YtlknklpjlljfjaaWalkC
import Derived.Test.YtlknklpjlljfjaaMem
namespace Go.Proofs.Ytlknklpjlljfjaa
open Go.RowKit

theorem ret_i {a b : Int} (h : a = b) : Ending.returned (.int .i64 a) = .returned (.int .i64 b) := by rw [h]

set_option maxHeartbeats 1000000 in
set_option maxRecDepth 100000 in
theorem step_any (st r : Nat) (w : World) (hst : st ≤ 4) :
    Calls Try.prog 22 #[.int .i64 st, .int .i32 r] w fun e w' => e = .returned (.int .i64 (Txt.stepN st r)) ∧ w' = w := by
  by_cases h32 : ((r : Int) == 32) = true
  · have H : Hid (r = 32) := by unfold Hid; simp at h32; omega
    rcases (by omega : st = 0 ∨ st = 1 ∨ st = 2 ∨ st = 3 ∨ st = 4) with rfl | rfl | rfl | rfl | rfl
    all_goals
      have h34 : ((r : Int) == 34) = false := by simp; have := H.out; omega
      have h92 : ((r : Int) == 92) = false := by simp; have := H.out; omega
      go_enter Try.func22, Try.ntmps22
      go_wp2
      go_ret
      exact ⟨ret_i (by rw [H.out]; rfl), rfl⟩
  rw [Bool.not_eq_true] at h32
  have H32 : Hid (¬ r = 32) := by unfold Hid; simp at h32; omega
  by_cases h34 : ((r : Int) == 34) = true
  · have H : Hid (r = 34) := by unfold Hid; simp at h34; omega
    rcases (by omega : st = 0 ∨ st = 1 ∨ st = 2 ∨ st = 3 ∨ st = 4) with rfl | rfl | rfl | rfl | rfl
    all_goals
      have h92 : ((r : Int) == 92) = false := by simp; have := H.out; omega
      go_enter Try.func22, Try.ntmps22
      go_wp2
      go_ret
      exact ⟨ret_i (by rw [H.out]; rfl), rfl⟩
  rw [Bool.not_eq_true] at h34
  have H34 : Hid (¬ r = 34) := by unfold Hid; simp at h34; omega
  by_cases h92 : ((r : Int) == 92) = true
  · have H : Hid (r = 92) := by unfold Hid; simp at h92; omega
    rcases (by omega : st = 0 ∨ st = 1 ∨ st = 2 ∨ st = 3 ∨ st = 4) with rfl | rfl | rfl | rfl | rfl
    all_goals
      go_enter Try.func22, Try.ntmps22
      go_wp2
      go_ret
      exact ⟨ret_i (by rw [H.out]; rfl), rfl⟩
  rw [Bool.not_eq_true] at h92
  have H92 : Hid (¬ r = 92) := by unfold Hid; simp at h92; omega
  rcases (by omega : st = 0 ∨ st = 1 ∨ st = 2 ∨ st = 3 ∨ st = 4) with rfl | rfl | rfl | rfl | rfl
  all_goals
    go_enter Try.func22, Try.ntmps22
    go_wp2
    go_ret
    exact ⟨ret_i (by simp [Txt.stepN, H32.out, H34.out, H92.out]), rfl⟩

set_option maxHeartbeats 1000000 in
set_option maxRecDepth 100000 in
theorem said_any (st nx : Nat) (w : World) :
    Calls Try.prog 25 #[.int .i64 st, .int .i64 nx] w fun e w' => e = .returned (.bool (Txt.saidB st nx)) ∧ w' = w := by
  rcases (by omega : nx = 1 ∨ nx = 2 ∨ (nx ≠ 1 ∧ nx ≠ 2)) with rfl | rfl | ⟨h1, h2⟩
  · go_enter Try.func25, Try.ntmps25
    go_wp2
    go_ret
    exact ⟨by simp [Txt.saidB], rfl⟩
  · by_cases h0 : ((st : Int) != 0) = true
    · have H : Hid (¬ st = 0) := by unfold Hid; simp at h0; omega
      go_enter Try.func25, Try.ntmps25
      go_wp2
      go_ret
      exact ⟨by simp [Txt.saidB, H.out], rfl⟩
    · rw [Bool.not_eq_true] at h0
      have H : Hid (st = 0) := by unfold Hid; simp at h0; omega
      go_enter Try.func25, Try.ntmps25
      go_wp2
      go_ret
      exact ⟨by simp [Txt.saidB, H.out], rfl⟩
  · have e1 : ((nx : Int) == 1) = false := by simp; omega
    have e2 : ((nx : Int) == 2) = false := by simp; omega
    have H : Hid (nx ≠ 1 ∧ nx ≠ 2) := ⟨h1, h2⟩
    clear h1 h2
    go_enter Try.func25, Try.ntmps25
    go_wp2
    go_ret
    exact ⟨by simp [Txt.saidB, H.out.1, H.out.2], rfl⟩

end Go.Proofs.Ytlknklpjlljfjaa
