/-
  The journal's small functions: over, First, Next of no log, operated, discard.
-/
import Derived.Test.YtplcpjngpkghmaaFo
import Derived.Test.YtplcpjngpkghmaaTd
import Derived.Test.YtplcpjngpkghmaaRt
namespace Go.Proofs.Ytplcpjngpkghmaa
open Go.RowKit Go.Maps

theorem k3 {w : World} {g : Nat} {a b c : Value} {t : TypeId} (h : w.heap[g]? = some (.cells #[a, b, c] t (0, 0))) : w.cell? ⟨g, 0, none⟩ = some a ∧ w.cell? ⟨g, 1, none⟩ = some b ∧ w.cell? ⟨g, 2, none⟩ = some c :=
  ⟨Lib.cell_of_heap h 0, Lib.cell_of_heap h 1, Lib.cell_of_heap h 2⟩
def nmL : List UInt8 := [108, 111, 103]
def nmS : List UInt8 := [108, 111, 103, 46, 110, 101, 119]

set_option maxHeartbeats 400000 in
theorem over_nil (w : World) : Calls Try.prog 42 #[.pointer none] w fun e w' => e = .returned (.bool true) ∧ w' = w := by
  go_enter Try.func42, Try.ntmps42
  go_wp2_with fail
  go_ret
  exact ⟨rfl, rfl⟩
set_option maxHeartbeats 400000 in
theorem over_yes (w : World) (lb : Nat) (x y : Value) (h : Hid (w.heap[lb]? = some (.cells #[.pointer none, x, y] 77 (0, 0)))) : Calls Try.prog 42 #[.pointer (some ⟨lb, 0, none⟩)] w fun e w' => e = .returned (.bool true) ∧ w' = w := by
  obtain ⟨e0, e1, e2⟩ := k3 h.out
  go_enter Try.func42, Try.ntmps42
  go_wp2_with fail
  go_ret
  exact ⟨rfl, rfl⟩
set_option maxHeartbeats 400000 in
theorem over_no (w : World) (lb : Nat) (a : Addr) (x y : Value) (h : Hid (w.heap[lb]? = some (.cells #[.pointer (some a), x, y] 77 (0, 0)))) : Calls Try.prog 42 #[.pointer (some ⟨lb, 0, none⟩)] w fun e w' => e = .returned (.bool false) ∧ w' = w := by
  obtain ⟨e0, e1, e2⟩ := k3 h.out
  go_enter Try.func42, Try.ntmps42
  go_wp2_with fail
  go_ret
  exact ⟨rfl, rfl⟩
set_option maxHeartbeats 400000 in
theorem first_nil (w : World) : Calls Try.prog 21 #[.pointer none] w fun e w' => e = .returned (.int .i64 0) ∧ w' = w := by
  go_enter Try.func21, Try.ntmps21
  go_wp2_with fail
  go_ret
  exact ⟨rfl, rfl⟩
set_option maxHeartbeats 400000 in
theorem first_at (w : World) (lb : Nat) (x z : Value) (f : Int) (h : Hid (w.heap[lb]? = some (.cells #[x, .int .i64 f, z] 77 (0, 0)))) : Calls Try.prog 21 #[.pointer (some ⟨lb, 0, none⟩)] w fun e w' => e = .returned (.int .i64 f) ∧ w' = w := by
  obtain ⟨e0, e1, e2⟩ := k3 h.out
  go_enter Try.func21, Try.ntmps21
  go_wp2_with fail
  go_ret
  exact ⟨rfl, rfl⟩
set_option maxHeartbeats 400000 in
theorem next_nil (w : World) : Calls Try.prog 22 #[.pointer none] w fun e w' => e = .returned (.int .i64 0) ∧ w' = w := by
  go_enter Try.func22, Try.ntmps22
  go_wp2_with fail
  go_ret
  exact ⟨rfl, rfl⟩
set_option maxHeartbeats 400000 in
theorem next_at (w : World) (lb : Nat) (x : Value) (f : Int) (q : Option Addr) (n c : Nat) (hf : 0 ≤ f) (hn : f + (n : Int) < 9223372036854775808) (h : Hid (w.heap[lb]? = some (.cells #[x, .int .i64 f, .slice q n c] 77 (0, 0)))) : Calls Try.prog 22 #[.pointer (some ⟨lb, 0, none⟩)] w fun e w' => e = .returned (.int .i64 (f + n)) ∧ Below w.heap.size w w' := by
  obtain ⟨e0, e1, e2⟩ := k3 h.out
  go_enter Try.func22, Try.ntmps22
  go_wp2_with fail
  go_quiet (fail)
  go_wp2_with fail
  go_ret
  exact ⟨rfl, below_drewN (Below.refl _ _) _⟩

/-- what the log tells of its disk's answer -/
def oprD (e : Int) : Int := if e = 0 then 0 else if e = 6 ∨ e = 1 then 6 else 11
set_option maxHeartbeats 400000 in
theorem opr_ok (w : World) (p : Value) : Calls Try.prog 44 #[p, .int .i64 0] w fun e w' => e = .returned (.int .i64 0) ∧ w' = w := by
  go_enter Try.func44, Try.ntmps44
  go_wp2_with fail
  go_ret
  exact ⟨rfl, rfl⟩
set_option maxHeartbeats 400000 in
theorem opr_full (w : World) (p : Value) (e : Int) (h : e = 6 ∨ e = 1) : Calls Try.prog 44 #[p, .int .i64 e] w fun e w' => e = .returned (.int .i64 6) ∧ w' = w := by
  rcases h with rfl | rfl
  all_goals
    go_enter Try.func44, Try.ntmps44
    go_wp2_with fail
    go_ret
    exact ⟨rfl, rfl⟩
set_option maxHeartbeats 400000 in
theorem opr_lost (w : World) (lb : Nat) (x y z : Value) (e : Int) (h0 : (e == 0) = false) (h6 : (e == 6) = false) (h1 : (e == 1) = false) (h : Hid (w.heap[lb]? = some (.cells #[x, y, z] 77 (0, 0)))) : Calls Try.prog 44 #[.pointer (some ⟨lb, 0, none⟩), .int .i64 e] w fun e w' => e = .returned (.int .i64 11) ∧ w' = w.setCell ⟨lb, 0, none⟩ (.pointer none) := by
  obtain ⟨e0, e1, e2⟩ := k3 h.out
  have f0 := fz h.out 0
  go_enter Try.func44, Try.ntmps44
  go_wp2_with fail
  go_ret
  exact ⟨rfl, rfl⟩

/-! ### discard -/
def discardD (D : DK) : Int × DK := if (removeD D nmS).1 = 3 then (0, (removeD D nmS).2) else removeD D nmS
set_option maxHeartbeats 400000 in
theorem discard_at (w : World) (p : Value) (R : World → Prop) (H : Hid (Calls Try.prog 31 #[p, .string ⟨#[108, 111, 103, 46, 110, 101, 119]⟩] w fun e w' => e = .returned (.int .i64 3) ∧ R w')) :
    Calls Try.prog 59 #[p] w fun e w' => e = .returned (.int .i64 0) ∧ R w' := by
  go_enter Try.func59, Try.ntmps59
  go_wp2_with (go_at_call 31; refine H.out.mono ?_)
  rintro e w1 ⟨rfl, h1⟩
  go_wp2_with fail
  go_ret
  exact ⟨rfl, h1⟩
set_option maxHeartbeats 400000 in
theorem discard_no (w : World) (p : Value) (c : Int) (hc : (c != 3) = true) (R : World → Prop) (H : Hid (Calls Try.prog 31 #[p, .string ⟨#[108, 111, 103, 46, 110, 101, 119]⟩] w fun e w' => e = .returned (.int .i64 c) ∧ R w')) :
    Calls Try.prog 59 #[p] w fun e w' => e = .returned (.int .i64 c) ∧ R w' := by
  go_enter Try.func59, Try.ntmps59
  go_wp2_with (go_at_call 31; refine H.out.mono ?_)
  rintro e w1 ⟨rfl, h1⟩
  go_wp2_with fail
  go_ret
  exact ⟨rfl, h1⟩
theorem discard_any {w : World} {tg : Nat → Tg} {pb : Nat} {D : DK} (h : Dsk w tg pb D) :
    Calls Try.prog 59 #[.pointer (some ⟨pb, 0, none⟩)] w fun e w' => e = .returned (.int .i64 (discardD D).1) ∧ Dsk w' tg pb (discardD D).2 ∧ Step tg tg w w' := by
  have H := remove_any h ⟨⟨nmS⟩⟩ (by decide)
  unfold discardD
  by_cases h3 : (removeD D nmS).1 = 3
  · rw [if_pos h3]
    have H' : Calls Try.prog 31 #[.pointer (some ⟨pb, 0, none⟩), .string ⟨#[108, 111, 103, 46, 110, 101, 119]⟩] w fun e w' => e = .returned (.int .i64 3) ∧ Dsk w' tg pb (removeD D nmS).2 ∧ Step tg tg w w' := by
      rw [← h3]; exact H
    exact discard_at w _ _ H'
  · rw [if_neg h3]
    exact discard_no w _ _ (by simpa using h3) _ H
end Go.Proofs.Ytplcpjngpkghmaa
