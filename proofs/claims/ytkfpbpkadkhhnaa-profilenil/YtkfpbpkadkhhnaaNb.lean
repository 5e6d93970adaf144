/-
  ProfileNil's law.
-/
import Derived.Test.YtkfpbpkadkhhnaaNa
import Derived.Test.YtkfpbpkadkhhnaaLb
namespace Go.Proofs.Ytkfpbpkadkhhnaa
open Go.RowKit Go.Maps

structure NS (w wr : World) (bx rb : Nat) (v : V) : Prop where
  w : Below w.heap.size w wr
  b : Bx wr bx v
  r : RZ wr rb
theorem NS.below {w wr w1 : World} {bx rb : Nat} {v : V} (h : NS w wr bx rb v) (b : Below wr.heap.size wr w1) : NS w w1 bx rb v := ⟨h.w.trans (b.mono h.w.size), at_below b (Nat.le_refl _) h.b, h.r.below b⟩
def eL (a b : Int) : Int := if spn a b then 0 else 2
theorem pleast (w : World) (a b : Int) : Calls Try.prog 19 #[.pointer none, .int .i64 a, .int .i64 b] w fun e w' => e = .returned (.tuple #[.agg #[.int .i64 0, .int .i64 0, .int .i64 0, .int .i64 0], .int .i64 (eL a b)]) ∧ Below w.heap.size w w' := by
  unfold eL
  by_cases h : spn a b = true
  · rw [if_pos h]; exact least_nil w a b h
  · rw [if_neg h]; exact least_bad w _ a b (by simpa using h)
theorem rleast (w : World) (rb : Nat) (a b : Int) (h : RZ w rb) : Calls Try.prog 20 #[.pointer (some ⟨rb, 0, none⟩), .int .i64 a, .int .i64 b] w fun e w' => e = .returned (.tuple #[.agg #[.int .i64 0, .int .i64 0, .int .i64 0, .int .i64 0], .int .i64 (eL a b)]) ∧ Below w.heap.size w w' := by
  unfold eL
  by_cases hs : spn a b = true
  · rw [if_pos hs]; exact rleast_nil w rb a b h hs
  · rw [if_neg hs]; exact rleast_bad w _ a b (by simpa using hs)
theorem pear (w : World) (a n : Int) (v : V) : Calls Try.prog 18 #[.pointer none, .int .i64 a, .int .i64 n, .agg #[.int .i64 v.a, .int .i64 v.b, .int .i64 v.c, .int .i64 v.d]] w fun e w' => (∃ t c : Int, e = .returned (.tuple #[.int .i64 t, .int .i64 c]) ∧ EarA V.nil (fa V.nil []) a n v t c) ∧ Below w.heap.size w w' := by
  by_cases hv : v.ok = false
  · refine (ear_bad w _ a n v hv).mono ?_
    rintro e w' ⟨rfl, b⟩
    exact ⟨⟨0, 4, rfl, by unfold EarA; rw [if_pos hv]; exact ⟨rfl, rfl⟩⟩, b⟩
  · by_cases hr : rgE a n = false
    · refine (ear_range w _ a n v (by simpa using hv) hr).mono ?_
      rintro e w' ⟨rfl, b⟩
      exact ⟨⟨0, 2, rfl, by unfold EarA; rw [if_neg hv, if_pos hr]; exact ⟨rfl, rfl⟩⟩, b⟩
    · exact ear_nil w a n v (by simpa using hv) (by simpa using hr)
theorem rear (w : World) (rb : Nat) (a n : Int) (v : V) (h : RZ w rb) : Calls Try.prog 21 #[.pointer (some ⟨rb, 0, none⟩), .int .i64 a, .int .i64 n, .agg #[.int .i64 v.a, .int .i64 v.b, .int .i64 v.c, .int .i64 v.d]] w fun e w' => (∃ t c : Int, e = .returned (.tuple #[.int .i64 t, .int .i64 c]) ∧ EarA V.nil (fa V.nil []) a n v t c) ∧ Below w.heap.size w w' := by
  by_cases hv : v.ok = false
  · refine (rear_bad w _ a n v hv).mono ?_
    rintro e w' ⟨rfl, b⟩
    exact ⟨⟨0, 4, rfl, by unfold EarA; rw [if_pos hv]; exact ⟨rfl, rfl⟩⟩, b⟩
  · by_cases hr : rgE a n = false
    · refine (rear_range w _ a n v (by simpa using hv) hr).mono ?_
      rintro e w' ⟨rfl, b⟩
      exact ⟨⟨0, 2, rfl, by unfold EarA; rw [if_neg hv, if_pos hr]; exact ⟨rfl, rfl⟩⟩, b⟩
    · exact rear_nil w rb a n v h (by simpa using hv) (by simpa using hr)
set_option maxHeartbeats 2000000 in
set_option maxRecDepth 100000 in
theorem nil_law (a b : Int) (v : V) (w : World) :
    Calls Try.prog 7 #[.int .i64 a, .int .i64 b, .agg #[.int .i64 v.a, .int .i64 v.b, .int .i64 v.c, .int .i64 v.d]] w fun e w' => e = .returned (.bool true) ∧ Below w.heap.size w w' := by
  obtain ⟨W, hW⟩ : ∃ W, W = w.alloc (vB v) := ⟨_, rfl⟩
  have hBW : Below w.heap.size w W := by rw [hW]; exact (Below.refl _ w).alloc (Nat.le_refl _) _
  have hbx : Bx W w.heap.size v := by rw [hW]; exact new0
  have HA0 : Hid (Calls Try.prog 8 #[] W fun e w' => e = .returned (.bool true) ∧ Hid (Below w.heap.size w w' ∧ Bx w' w.heap.size v)) := (awake_any W W (Below.refl _ _)).mono fun e w' h => ⟨h.1, hBW.trans (h.2.mono hBW.size), at_below h.2 (Nat.le_refl _) hbx⟩
  rw [hW] at HA0
  clear hW hBW hbx
  have HL : Hid (∀ W, Calls Try.prog 19 #[.pointer none, .int .i64 a, .int .i64 b] W fun e w' => e = .returned (.tuple #[.agg #[.int .i64 0, .int .i64 0, .int .i64 0, .int .i64 0], .int .i64 (eL a b)]) ∧ Hid (Below W.heap.size W w')) := fun W => pleast W a b
  have HR : Hid (∀ W rb, RZ W rb → Calls Try.prog 20 #[.pointer (some ⟨rb, 0, none⟩), .int .i64 a, .int .i64 b] W fun e w' => e = .returned (.tuple #[.agg #[.int .i64 0, .int .i64 0, .int .i64 0, .int .i64 0], .int .i64 (eL a b)]) ∧ Hid (Below W.heap.size W w')) := fun W rb h => rleast W rb a b h
  generalize eL a b = ec at *
  have HE : Hid (∀ W, Calls Try.prog 18 #[.pointer none, .int .i64 a, .int .i64 b, .agg #[.int .i64 v.a, .int .i64 v.b, .int .i64 v.c, .int .i64 v.d]] W fun e w' => ∃ t c : Int, e = .returned (.tuple #[.int .i64 t, .int .i64 c]) ∧ Hid (EarA V.nil (fa V.nil []) a b v t c) ∧ Hid (Below W.heap.size W w')) := fun W => (pear W a b v).mono fun e w' h => by
    obtain ⟨⟨t, c, h1, h2⟩, h3⟩ := h
    exact ⟨t, c, h1, h2, h3⟩
  have HF : Hid (∀ W rb t c, RZ W rb → EarA V.nil (fa V.nil []) a b v t c → Calls Try.prog 21 #[.pointer (some ⟨rb, 0, none⟩), .int .i64 a, .int .i64 b, .agg #[.int .i64 v.a, .int .i64 v.b, .int .i64 v.c, .int .i64 v.d]] W fun e w' => e = .returned (.tuple #[.int .i64 t, .int .i64 c]) ∧ Hid (Below W.heap.size W w')) := fun W rb t c h he => (rear W rb a b v h).mono fun e w' h => by
    obtain ⟨⟨t', c', h1, h2⟩, h3⟩ := h
    obtain ⟨rfl, rfl⟩ := he.uniq h2
    exact ⟨h1, h3⟩
  have HFr : Hid (∀ W, Calls Try.prog 17 #[.pointer none, .int .i64 a] W fun e w' => e = .returned (.agg #[.int .i64 0, .int .i64 0, .int .i64 0, .int .i64 0]) ∧ Hid (Below W.heap.size W w')) := fun W => Free_nil W a
  have HSt : Hid (∀ W, Calls Try.prog 13 #[.pointer none] W fun e w' => e = .returned (.slice none 0 0) ∧ w' = W) := fun W => steps_nil W
  have HTk : Hid (∀ W, Calls Try.prog 15 #[.pointer none, .int .i64 a, .int .i64 b, .agg #[.int .i64 v.a, .int .i64 v.b, .int .i64 v.c, .int .i64 v.d]] W fun e w' => e = .returned (.int .i64 10) ∧ Hid (Below W.heap.size W w')) := fun W => take_nil W a b v
  have hq : ∀ w, (Op.equalIn 10000 23 (.agg #[.int .i64 0, .int .i64 0, .int .i64 0, .int .i64 0]) (.agg #[.int .i64 0, .int .i64 0, .int .i64 0, .int .i64 0])).run Try.prog w = .ok true w := fun w => eq4 0 0 0 0 0 0 0 0 w
  go_enter Try.func7, Try.ntmps7
  go_upto_region 3 with (go_at_call 8; refine HA0.out.mono ?_; rintro e w1 ⟨rfl, h1⟩)
  go_upto_region 5 with fail
  have h2 : Hid (NS w (w1.alloc (.cells #[.int .i64 0, .int .i64 0, .int .i64 0, .int .i64 0, .slice none 0 0] 34)) w.heap.size w1.heap.size v) := ⟨h1.out.1.alloc h1.out.1.size _, at_alloc h1.out.2, new0⟩
  generalize w1.alloc (.cells #[.int .i64 0, .int .i64 0, .int .i64 0, .int .i64 0, .slice none 0 0] 34) = W2 at *
  generalize w1.heap.size = rb at *
  clear h1 HA0
  go_upto_region 6 with (go_at_call 19; refine (HL.out _).mono ?_; rintro e w3 ⟨rfl, b3⟩)
  have h3 : Hid (NS w (w3.alloc (.cells #[.int .i64 0, .int .i64 0, .int .i64 0, .int .i64 0] 23)) w.heap.size rb v ∧ Bx (w3.alloc (.cells #[.int .i64 0, .int .i64 0, .int .i64 0, .int .i64 0] 23)) w3.heap.size V.nil) := ⟨(h2.out.below b3.out).below ((Below.refl _ _).alloc (Nat.le_refl _) _), new0⟩
  generalize w3.alloc (.cells #[.int .i64 0, .int .i64 0, .int .i64 0, .int .i64 0] 23) = W3 at *
  generalize w3.heap.size = xb at *
  clear h2 HL b3
  go_upto_region 7 with (go_at_call 20; refine (HR.out _ rb h3.out.1.r).mono ?_; rintro e w4 ⟨rfl, b4⟩)
  have h4 : Hid (NS w (w4.alloc (.cells #[.int .i64 0, .int .i64 0, .int .i64 0, .int .i64 0] 23)) w.heap.size rb v ∧ Bx (w4.alloc (.cells #[.int .i64 0, .int .i64 0, .int .i64 0, .int .i64 0] 23)) xb V.nil ∧ Bx (w4.alloc (.cells #[.int .i64 0, .int .i64 0, .int .i64 0, .int .i64 0] 23)) w4.heap.size V.nil) := ⟨(h3.out.1.below b4.out).below ((Below.refl _ _).alloc (Nat.le_refl _) _), at_alloc (at_below b4.out (Nat.le_refl _) h3.out.2), new0⟩
  generalize w4.alloc (.cells #[.int .i64 0, .int .i64 0, .int .i64 0, .int .i64 0] 23) = W4 at *
  generalize w4.heap.size = yb at *
  clear h3 HR b4
  obtain ⟨q0, q1, q2, q3, -⟩ := cells4 h4.out.1.b
  go_upto_region 8 with (go_at_call 18; refine (HE.out _).mono ?_; rintro e w5 ⟨t, c, rfl, he, b5⟩)
  have h5 : Hid (NS w w5 w.heap.size rb v ∧ Bx w5 xb V.nil ∧ Bx w5 yb V.nil) := ⟨h4.out.1.below b5.out, at_below b5.out (Nat.le_refl _) h4.out.2.1, at_below b5.out (Nat.le_refl _) h4.out.2.2⟩
  clear h4 HE b5 q0 q1 q2 q3
  obtain ⟨q0, q1, q2, q3, -⟩ := cells4 h5.out.1.b
  go_upto_region 9 with (go_at_call 21; refine (HF.out _ rb t c h5.out.1.r he.out).mono ?_; rintro e w6 ⟨rfl, b6⟩)
  have h6 : Hid (NS w w6 w.heap.size rb v ∧ Bx w6 xb V.nil ∧ Bx w6 yb V.nil) := ⟨h5.out.1.below b6.out, at_below b6.out (Nat.le_refl _) h5.out.2.1, at_below b6.out (Nat.le_refl _) h5.out.2.2⟩
  clear h5 HF b6 q0 q1 q2 q3 he
  go_wp2_with (go_at_call 17; refine (HFr.out _).mono ?_)
  first | rintro e w7 rfl b7 | rintro e w7 ⟨rfl, b7⟩
  have h7 : Hid (NS w w7 w.heap.size rb v ∧ Bx w7 xb V.nil ∧ Bx w7 yb V.nil) := ⟨h6.out.1.below b7.out, at_below b7.out (Nat.le_refl _) h6.out.2.1, at_below b7.out (Nat.le_refl _) h6.out.2.2⟩
  clear h6 b7 HFr
  obtain ⟨q0, q1, q2, q3, -⟩ := cells4 h7.out.1.b
  obtain ⟨x0, x1, x2, x3, -⟩ := cells4 h7.out.2.1
  obtain ⟨y0, y1, y2, y3, -⟩ := cells4 h7.out.2.2
  simp only [V.nil] at x0 x1 x2 x3 y0 y1 y2 y3
  go_wp2_with (first | (go_at_call 13; refine (HSt.out _).mono ?_; rintro e w8 ⟨rfl, rfl⟩) | (go_at_call 15; refine (HTk.out _).mono ?_; rintro e w9 ⟨rfl, b9⟩))
  go_ret
  exact ⟨rfl, h7.out.1.w.trans (b9.out.mono h7.out.1.w.size)⟩
end Go.Proofs.Ytkfpbpkadkhhnaa
