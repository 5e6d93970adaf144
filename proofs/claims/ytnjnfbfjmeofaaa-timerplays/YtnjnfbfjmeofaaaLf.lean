/-
  TimerNil's law.
-/
import Derived.Test.YtnjnfbfjmeofaaaLe
namespace Go.Proofs.Ytnjnfbfjmeofaaa
open Go.RowKit Go.Maps Go.WideMaps

theorem l_zero (w0 w : World) (b : Below w0.heap.size w0 w) : LL w0 (w.alloc (.cells #[.slice none 0 0, .map none] 60 (0, 0))) w.heap.size NX [] := by
  refine ⟨_, zero_C w, b.alloc b.size _, fun j q => ?_, fun j o q => by cases q⟩
  rcases q with rfl | q | q
  · exact b.size
  · cases q
  · cases q
theorem pw_self (s : ByteArray) (x : Int) : pw x [⟨s, x⟩] = [⟨s, x⟩] := by simp [pw]
theorem dw_self (s : ByteArray) (x : Int) : dw x [⟨s, x⟩] = [] := by simp [dw]
set_option maxHeartbeats 2000000 in
set_option maxRecDepth 100000 in
theorem nil_law (s : ByteArray) (x : Int) (w : World) (hs : s.size ≤ 140737488351232) :
    Calls Try.prog 7 #[.string s, .int .i64 x] w fun e w' => e = .returned (.bool true) ∧ Below w.heap.size w w' := by
  have HA : Hid (Calls Try.prog 9 #[] w fun e w' => e = .returned (.bool true) ∧ Below w.heap.size w w') := awake_any w w (Below.refl _ _)
  have HG : Hid (∀ W, Calls Try.prog 18 #[.pointer none, .string s] W fun e w' => e = .returned (.tuple #[.int .i64 0, .int .i64 3]) ∧ w' = W) := fun W => get_nil W s
  have HX : Hid (∀ W, Calls Try.prog 20 #[.pointer none] W fun e w' => e = .returned (.tuple #[.agg #[.string ⟨#[]⟩, .int .i64 0], .int .i64 3]) ∧ Below W.heap.size W w') := fun W => next_nil W
  have HS : Hid (∀ W, Calls Try.prog 16 #[.pointer none, .string s, .int .i64 x] W fun e w' => e = .returned (.int .i64 10) ∧ w' = W) := fun W => set_nil W s x
  have HC : Hid (∀ W, Calls Try.prog 19 #[.pointer none, .string s] W fun e w' => e = .returned (.int .i64 3) ∧ w' = W) := fun W => cancel_nil W s
  have HD : Hid (∀ W, Calls Try.prog 14 #[.pointer none, .int .i64 x] W fun e w' => e = .returned (.slice none 0 0) ∧ w' = W) := fun W => due_nil W x
  have HL : Hid (∀ W, Calls Try.prog 12 #[.pointer none] W fun e w' => e = .returned (.int .i64 0) ∧ w' = W) := fun W => len_nil W
  have HZ : Hid (∀ W, Below w.heap.size w W → LL w (W.alloc (.cells #[.slice none 0 0, .map none] 60 (0, 0))) W.heap.size NX []) := fun W b => l_zero w W b
  have HS1 : Hid (∀ W cb, LL w W cb NX [] → Calls Try.prog 16 #[.pointer (some ⟨cb, 0, none⟩), .string s, .int .i64 x] W fun e w' => e = .returned (.int .i64 0) ∧ Hid (LL w w' cb NX [⟨s, x⟩])) := fun W cb h => l_set h s x (by omega)
  have HD1 : Hid (∀ W cb, LL w W cb NX [⟨s, x⟩] → Calls Try.prog 14 #[.pointer (some ⟨cb, 0, none⟩), .int .i64 x] W fun e w' => ∃ g c, e = .returned (.slice (some ⟨g, 0, none⟩) 1 c) ∧ Hid (w'.cell? ⟨g, 0, none⟩ = some (.string s) ∧ w'.cell? ⟨g, 1, none⟩ = some (.int .i64 x) ∧ Below w.heap.size w w')) := fun W cb h => by
    refine (l_due h x).mono ?_
    rw [pw_self, dw_self]
    rintro e w' ⟨v, rfl, hr, hl⟩
    obtain ⟨g, c, e⟩ := hr.row (Nat.zero_lt_one)
    subst e
    exact ⟨g, c, rfl, hr.c0 (i := 0) rfl, hr.c1 (i := 0) rfl, hl.bel⟩
  clear hs
  go_enter Try.func7, Try.ntmps7
  go_upto_region 8 with (first | (go_at_call 9; refine HA.out.mono ?_; rintro e w1 ⟨rfl, b1⟩) | (go_at_call 18; refine (HG.out _).mono ?_; rintro e w2 ⟨rfl, rfl⟩) | (go_at_call 20; refine (HX.out _).mono ?_; rintro e w3 ⟨rfl, b3⟩) | (go_at_call 16; refine (HS.out _).mono ?_; rintro e w4 ⟨rfl, rfl⟩) | (go_at_call 19; refine (HC.out _).mono ?_; rintro e w5 ⟨rfl, rfl⟩) | (go_at_call 14; refine (HD.out _).mono ?_; rintro e w6 ⟨rfl, rfl⟩) | (go_at_call 12; refine (HL.out _).mono ?_; rintro e w7 ⟨rfl, rfl⟩))
  have HB : Hid (Below w.heap.size w (w3.alloc (.cells #[.string ⟨#[]⟩, .int .i64 0] 45 (0, 0)))) := (b1.trans (b3.mono b1.size)).alloc (Nat.le_trans b1.size b3.size) _
  generalize w3.alloc (.cells #[.string ⟨#[]⟩, .int .i64 0] 45 (0, 0)) = W at *
  have L0 := HZ.out W HB.out
  have H16 : Hid (Calls Try.prog 16 #[.pointer (some ⟨W.heap.size, 0, none⟩), .string s, .int .i64 x] (W.alloc (.cells #[.slice none 0 0, .map none] 60 (0, 0))) fun e w' => e = .returned (.int .i64 0) ∧ Hid (LL w w' W.heap.size NX [⟨s, x⟩])) := HS1.out _ _ L0
  clear L0 b1 b3 HS HD
  go_wp2_with (first | (go_at_call 16; refine H16.out.mono ?_; rintro e w4 ⟨rfl, h4⟩) | (go_at_call 14; refine (HD1.out _ _ h4.out).mono ?_; rintro e w5 ⟨g, c, rfl, h5⟩; have d0 := h5.out.1; have d1 := h5.out.2.1))
  go_ret
  exact ⟨rfl, h5.out.2.2⟩
end Go.Proofs.Ytnjnfbfjmeofaaa
