/-
  The program's Decrease where it refuses; Meld of a heap with itself.
-/
import Derived.Test.YtmcmldlnmmbbgaaMe
import Derived.Test.YtmcmldlnmmbbgaaMd
namespace Go.Proofs.Ytmcmldlnmmbbgaa
open Go.RowKit Go.Maps

section
variable {w w' : World} {tg : Nat → Tg} {hb g n : Nat} {C : Ct} {S : HS}
set_option maxHeartbeats 2000000 in
theorem dec_none (x : Int) (k : K) (hb : Nat) (H36 : Hid (∀ w1, Below w.heap.size w w1 → Calls Try.prog 36 #[.pointer (some ⟨hb, 0, none⟩), .int .i64 x] w1 fun e w' => e = .returned (.pointer none) ∧ w' = w1)) : Calls Try.prog 19 #[.pointer (some ⟨hb, 0, none⟩), .int .i64 x, .agg #[.int .u64 k.n, .int .u64 k.d, .int .i64 k.t]] w fun e w' => e = .returned (.int .i64 3) ∧ Below w.heap.size w w' := by
  have B0 : Below w.heap.size w (w.alloc (.cells #[.int .u64 k.n, .int .u64 k.d, .int .i64 k.t] 37)) := (Below.refl _ w).alloc (Nat.le_refl _) _
  have H1 := H36.out _ B0
  have HB : Hid (Below w.heap.size w (w.alloc (.cells #[.int .u64 k.n, .int .u64 k.d, .int .i64 k.t] 37))) := B0
  clear B0
  go_enter Try.func19, Try.ntmps19
  go_wp2_with (go_at_call 36; refine H1.mono ?_; rintro e w1 ⟨rfl, rfl⟩)
  go_ret
  exact ⟨rfl, HB.out⟩
set_option maxHeartbeats 2000000 in
theorem dec_form (x : Int) (k : K) (hb b : Nat) (H36 : Hid (∀ w1, Below w.heap.size w w1 → Calls Try.prog 36 #[.pointer (some ⟨hb, 0, none⟩), .int .i64 x] w1 fun e w' => e = .returned (.pointer (some ⟨b, 0, none⟩)) ∧ w' = w1)) (H30 : Hid (∀ w, Calls Try.prog 30 #[.agg #[.int .u64 k.n, .int .u64 k.d, .int .i64 k.t]] w fun e w' => e = .returned (.bool false) ∧ Below w.heap.size w w')) : Calls Try.prog 19 #[.pointer (some ⟨hb, 0, none⟩), .int .i64 x, .agg #[.int .u64 k.n, .int .u64 k.d, .int .i64 k.t]] w fun e w' => e = .returned (.int .i64 4) ∧ Below w.heap.size w w' := by
  go_enter Try.func19, Try.ntmps19
  go_upto_region 1 with fail
  have K0 : (w.alloc (.cells #[.int .u64 k.n, .int .u64 k.d, .int .i64 k.t] 37)).heap[w.heap.size]? = some (.cells #[.int .u64 k.n, .int .u64 k.d, .int .i64 k.t] 37 (0, 0)) := new0
  have B0 : Below w.heap.size w (w.alloc (.cells #[.int .u64 k.n, .int .u64 k.d, .int .i64 k.t] 37)) := by go_grown
  generalize w.alloc (.cells #[.int .u64 k.n, .int .u64 k.d, .int .i64 k.t] 37) = W0 at *
  have H1 := H36.out W0 B0
  obtain ⟨k0, k1, k2⟩ := c3 K0
  go_wp2_with (first | (go_at_call 36; refine H1.mono ?_; rintro e w1 ⟨rfl, rfl⟩) | (go_at_call 30; refine (H30.out _).mono ?_; rintro e w2 ⟨rfl, b2⟩; have B2 : Hid (Below w.heap.size w w2) := B0.trans (b2.mono B0.size)))
  go_ret
  exact ⟨rfl, B2.out⟩
set_option maxHeartbeats 4000000 in
theorem dec_more (w : World) (hb b : Nat) (x : Int) (k old : K) (o : Int) (ho : (0 : Int) < o)
    (H36 : Hid (∀ w1, Below w.heap.size w w1 → Calls Try.prog 36 #[.pointer (some ⟨hb, 0, none⟩), .int .i64 x] w1 fun e w' => e = .returned (.pointer (some ⟨b, 0, none⟩)) ∧ w' = w1))
    (H30 : Hid (∀ w, Calls Try.prog 30 #[.agg #[.int .u64 k.n, .int .u64 k.d, .int .i64 k.t]] w fun e w' => e = .returned (.bool true) ∧ Below w.heap.size w w'))
    (H37 : Hid (∀ w, Calls Try.prog 37 #[.agg #[.int .u64 k.n, .int .u64 k.d, .int .i64 k.t], .agg #[.int .u64 old.n, .int .u64 old.d, .int .i64 old.t]] w fun e w' => e = .returned (.int .i64 o) ∧ Below w.heap.size w w'))
    (HF : Hid (∀ w1, Below w.heap.size w w1 → w1.cell? ⟨b, 1, none⟩ = some (.int .u64 old.n) ∧ w1.cell? ⟨b, 2, none⟩ = some (.int .u64 old.d) ∧ w1.cell? ⟨b, 3, none⟩ = some (.int .i64 old.t))) :
    Calls Try.prog 19 #[.pointer (some ⟨hb, 0, none⟩), .int .i64 x, .agg #[.int .u64 k.n, .int .u64 k.d, .int .i64 k.t]] w fun e w' => e = .returned (.int .i64 2) ∧ Below w.heap.size w w' := by
  go_enter Try.func19, Try.ntmps19
  go_upto_region 1 with fail
  have K0 : (w.alloc (.cells #[.int .u64 k.n, .int .u64 k.d, .int .i64 k.t] 37)).heap[w.heap.size]? = some (.cells #[.int .u64 k.n, .int .u64 k.d, .int .i64 k.t] 37 (0, 0)) := new0
  have B0 : Below w.heap.size w (w.alloc (.cells #[.int .u64 k.n, .int .u64 k.d, .int .i64 k.t] 37)) := by go_grown
  generalize w.alloc (.cells #[.int .u64 k.n, .int .u64 k.d, .int .i64 k.t] 37) = W0 at *
  have H1 := H36.out W0 B0
  obtain ⟨k0, k1, k2⟩ := c3 K0
  go_upto_region 6 with (first | (go_at_call 36; refine H1.mono ?_; rintro e w1 ⟨rfl, rfl⟩) | (go_at_call 30; refine (H30.out _).mono ?_; rintro e w2 ⟨rfl, b2⟩; have K2 : Hid (w2.heap[w.heap.size]? = some (.cells #[.int .u64 k.n, .int .u64 k.d, .int .i64 k.t] 37 (0, 0))) := at_below b2 (Nat.le_refl _) K0; have B2 : Hid (Below w.heap.size w w2) := B0.trans (b2.mono B0.size); clear k0 k1 k2 K0 B0 b2))
  obtain ⟨d1, d2, d3⟩ := HF.out w2 B2.out
  have hc6 : w2.cell? ⟨w.heap.size, 0, none⟩ = some (.int .u64 k.n) ∧ w2.cell? ⟨w.heap.size, 1, none⟩ = some (.int .u64 k.d) ∧ w2.cell? ⟨w.heap.size, 2, none⟩ = some (.int .i64 k.t) ∧ w2.cell? ⟨b, 1, none⟩ = some (.int .u64 old.n) ∧ w2.cell? ⟨b, 2, none⟩ = some (.int .u64 old.d) ∧ w2.cell? ⟨b, 3, none⟩ = some (.int .i64 old.t) := by
    obtain ⟨a0, a1, a2⟩ := c3 K2.out
    exact ⟨a0, a1, a2, d1, d2, d3⟩
  clear d1 d2 d3
  go_region_held3 (fun w' : World => w'.cell? ⟨w.heap.size, 0, none⟩ = some (.int .u64 k.n) ∧ w'.cell? ⟨w.heap.size, 1, none⟩ = some (.int .u64 k.d) ∧ w'.cell? ⟨w.heap.size, 2, none⟩ = some (.int .i64 k.t) ∧ w'.cell? ⟨b, 1, none⟩ = some (.int .u64 old.n) ∧ w'.cell? ⟨b, 2, none⟩ = some (.int .u64 old.d) ∧ w'.cell? ⟨b, 3, none⟩ = some (.int .i64 old.t)) (repeat' (first | (with_reducible assumption) | (with_reducible refine keep6' b3 ?_) | (with_reducible refine keep1c' b3 ?_) | go_keep)) (first | (go_at_call 37; refine (H37.out _).mono ?_; rintro e w3 ⟨rfl, b3⟩; have y3 := below_from (B := w2.heap.size) (w := w2) (by go_grown) b3 (by simp)))
  have B3 : Hid (Below w.heap.size w w3) := B2.out.trans (y3.mono B2.out.size)
  clear y3 b3 hc6 B2 K2 HF H36 H30 H37
  go_wp2_with fail
  go_ret
  exact ⟨rfl, B3.out⟩
theorem dec_C0 (h : Hc w tg hb C g n S) (x : Int) (hx : (Lit.int .i64 x).wf = true) (k : K) (hC : C x = none) : Calls Try.prog 19 #[.pointer (some ⟨hb, 0, none⟩), .int .i64 x, .agg #[.int .u64 k.n, .int .u64 k.d, .int .i64 k.t]] w fun e w' => e = .returned (.int .i64 3) ∧ Below w.heap.size w w' := by
  rw [← h.c] at hC
  have ha : S.at x = none := Option.map_eq_none_iff.1 hC
  refine dec_none x k hb fun w1 b1 => ?_
  have := (h.keep b1).find x hx
  rw [ha] at this
  exact this
theorem dec_C4 (h : Hc w tg hb C g n S) (x : Int) (hx : (Lit.int .i64 x).wf = true) (k : K) {old : K} (hC : C x = some old) (hk : k.d = 0) : Calls Try.prog 19 #[.pointer (some ⟨hb, 0, none⟩), .int .i64 x, .agg #[.int .u64 k.n, .int .u64 k.d, .int .i64 k.t]] w fun e w' => e = .returned (.int .i64 4) ∧ Below w.heap.size w w' := by
  rw [← h.c] at hC
  obtain ⟨b, ha, _⟩ := Option.map_eq_some_iff.1 hC
  refine dec_form x k hb b (fun w1 b1 => ?_) (fun w1 => ?_)
  · have := (h.keep b1).find x hx
    rw [ha] at this
    exact this
  · have := formed_any k.n k.d k.t w1
    rw [show ((k.d : Int) != 0) = false by rw [hk]; rfl] at this
    exact this
theorem dec_C2 (h : Hc w tg hb C g n S) (x : Int) (hx : (Lit.int .i64 x).wf = true) (k : K) {old : K} (hC : C x = some old) (hk : k.ok) (hgt : kl old k) : Calls Try.prog 19 #[.pointer (some ⟨hb, 0, none⟩), .int .i64 x, .agg #[.int .u64 k.n, .int .u64 k.d, .int .i64 k.t]] w fun e w' => e = .returned (.int .i64 2) ∧ Below w.heap.size w w' := by
  rw [← h.c] at hC
  obtain ⟨b, ha, hb'⟩ := Option.map_eq_some_iff.1 hC
  obtain ⟨hbX, hbx⟩ := at_some ha
  refine dec_more w hb b x k (S.ky b) (kc k (S.ky b)) (by rw [hb']; exact kc_pos.2 hgt) (fun w1 b1 => ?_) (fun w1 => ?_) (fun w1 => compare_keys k (S.ky b) hk (h.h.i.ok b hbX) w1) (fun w1 b1 => ?_)
  · have := (h.keep b1).find x hx
    rw [ha] at this
    exact this
  · have := formed_any k.n k.d k.t w1
    rw [show ((k.d : Int) != 0) = true by simp; exact hk.z] at this
    exact this
  · have hB := (h.keep b1).h.m.nd b hbX
    exact ⟨hB.cell 1 (by decide), hB.cell 2 (by decide), hB.cell 3 (by decide)⟩
set_option maxHeartbeats 4000000 in
set_option maxRecDepth 100000 in
theorem meld_self (hb : Nat) (w : World) : Calls Try.prog 21 #[.pointer (some ⟨hb, 0, none⟩), .pointer (some ⟨hb, 0, none⟩)] w fun e w' => e = .returned (.tuple #[.int .i64 0, .int .i64 10]) ∧ w' = w := by
  have q24 : (binOp .eql 24 (.pointer (some ⟨hb, 0, none⟩)) (.pointer (some ⟨hb, 0, none⟩))).run Try.prog w = .ok (.bool true) w := by
    obtain ⟨j, h1, h2⟩ := info70
    exact run_eql_ptr_same w ⟨hb, 0, none⟩ Try.underlying24 h1
  go_enter Try.func21, Try.ntmps21
  go_wp2_with fail
  go_ret2
  exact ⟨rfl, rfl⟩
end
end Go.Proofs.Ytmcmldlnmmbbgaa
