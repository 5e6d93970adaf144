/-
  A step of the script.
-/
import Derived.Test.YtnjnfbfjmeofaaaSa
namespace Go.Proofs.Ytnjnfbfjmeofaaa
open Go.RowKit Go.Maps Go.WideMaps

abbrev opB (k : Int) (s : ByteArray) (x : Int) : Obj := .cells #[.int .i64 k, .string s, .int .i64 x] 32 (0, 0)
theorem adX_self (X : Nat → Option Obj) (j : Nat) (o : Obj) : adX X j o j = some o := by simp [adX]
theorem BB.lose {w0 w : World} {cb rb : Nat} {X : Nat → Option Obj} {Rc Rr : List Al} (h : BB w0 w cb rb X Rc Rr) : BB w0 w cb rb NX Rc Rr := h.forget fun j o q => by cases q
abbrev pV (b : Nat) : Value := .pointer (some ⟨b, 0, none⟩)
/-- the box of the operation -/
def Z (w : World) (bx : Nat) (s : ByteArray) (x : Int) : Prop := w.cell? ⟨bx, 1, none⟩ = some (.string s) ∧ w.cell? ⟨bx, 2, none⟩ = some (.int .i64 x)
section
variable {w0 w : World} {cb rb : Nat} {R : List Al}
set_option maxHeartbeats 2000000 in
theorem step1 (h : BB w0 w cb rb NX R R) (s : ByteArray) (x : Int) (hs : s.size ≤ 281474976710656) :
    Calls Try.prog 11 #[pV cb, pV rb, .agg #[.int .i64 1, .string s, .int .i64 x]] w fun e w' => e = .returned (.bool true) ∧ ∃ R', BB w0 w' cb rb NX R' R' := by
  have A := h.alloc (opB 1 s x)
  have hR := h.srt
  have hs' : s.size ≤ maxLen := Nat.le_trans hs (by decide)
  obtain ⟨c, hc⟩ : ∃ c, c = setC s.data.toList R := ⟨_, rfl⟩
  have H1 : Hid (Calls Try.prog 16 #[pV cb, .string s, .int .i64 x] (w.alloc (opB 1 s x)).drew fun e w' => e = .returned (.int .i64 c) ∧ (w'.cell? ⟨w.heap.size, 1, none⟩ = some (.string s) ∧ w'.cell? ⟨w.heap.size, 2, none⟩ = some (.int .i64 x)) ∧ Hid (Calls Try.prog 21 #[pV rb, .string s, .int .i64 x] w' fun e w2 => e = .returned (.int .i64 c) ∧ (w2.cell? ⟨w.heap.size, 1, none⟩ = some (.string s) ∧ w2.cell? ⟨w.heap.size, 2, none⟩ = some (.int .i64 x)) ∧ Hid (∃ R', BB w0 w2 cb rb NX R' R'))) := by
    refine (b_set (A.below (w' := (w.alloc (opB 1 s x)).drew) ((Below.refl _ _).drew)) s x hs).mono ?_
    rintro e w' ⟨rfl, h1⟩
    have nb := h1.box (adX_self _ _ _)
    refine ⟨by rw [hc], ⟨by rw [cell_of nb]; rfl, by rw [cell_of nb]; rfl⟩, ?_⟩
    refine (b_rset h1 hR s x).mono ?_
    rintro e w2 ⟨rfl, h2⟩
    have nb := h2.box (adX_self _ _ _)
    exact ⟨by rw [hc], ⟨by rw [cell_of nb]; rfl, by rw [cell_of nb]; rfl⟩, _, h2.lose⟩
  have nb := A.box (adX_self _ _ _)
  have z0 : (w.alloc (opB 1 s x)).cell? ⟨w.heap.size, 0, none⟩ = some (.int .i64 1) := by rw [cell_of nb]; rfl
  have z1 : (w.alloc (opB 1 s x)).cell? ⟨w.heap.size, 1, none⟩ = some (.string s) := by rw [cell_of nb]; rfl
  have z2 : (w.alloc (opB 1 s x)).cell? ⟨w.heap.size, 2, none⟩ = some (.int .i64 x) := by rw [cell_of nb]; rfl
  clear nb A hc hR h
  go_enter Try.func11, Try.ntmps11
  go_upto_region 1 with fail
  generalize w.alloc (opB 1 s x) = W0 at *
  generalize w.heap.size = bx at *
  go_upto_region 3 with fail
  have zz : W0.cell? ⟨bx, 1, none⟩ = some (.string s) ∧ W0.cell? ⟨bx, 2, none⟩ = some (.int .i64 x) := ⟨z1, z2⟩
  go_region_held3 (fun w' : World => w'.cell? ⟨bx, 1, none⟩ = some (.string s) ∧ w'.cell? ⟨bx, 2, none⟩ = some (.int .i64 x)) (first | (with_reducible assumption) | (with_reducible exact z4) | (with_reducible exact z3) | (with_reducible exact zz) | (exact zz) | go_keep) (first | (go_at_call 16; refine H1.out.mono ?_; rintro e w3 ⟨rfl, z3, h3⟩) | (go_at_call 21; refine h3.out.mono ?_; rintro e w4 ⟨rfl, z4, h4⟩))
  all_goals go_wp2_with fail
  all_goals go_ret
  all_goals exact ⟨ret_b (by simp), h4.out⟩
set_option maxHeartbeats 2000000 in
theorem step2 (h : BB w0 w cb rb NX R R) (s : ByteArray) (x : Int) (hs : s.size ≤ 281474976710656) :
    Calls Try.prog 11 #[pV cb, pV rb, .agg #[.int .i64 2, .string s, .int .i64 x]] w fun e w' => e = .returned (.bool true) ∧ ∃ R', BB w0 w' cb rb NX R' R' := by
  have A := h.alloc (opB 2 s x)
  have hR := h.srt
  have hs' : s.size ≤ maxLen := Nat.le_trans hs (by decide)
  have H1 := b_get A s hs'
  have H2 := b_rget A s
  obtain ⟨y, c, hy⟩ : ∃ y c, getV (fnd s.data.toList R) = .tuple #[.int .i64 y, .int .i64 c] := by
    cases fnd s.data.toList R with
    | none => exact ⟨_, _, rfl⟩
    | some a => exact ⟨_, _, rfl⟩
  rw [hy] at H1 H2
  have G1 : Hid (Calls Try.prog 18 #[pV cb, .string s] (w.alloc (opB 2 s x)) fun e w' => e = .returned (.tuple #[.int .i64 y, .int .i64 c]) ∧ w' = w.alloc (opB 2 s x)) := H1
  have G2 : Hid (Calls Try.prog 22 #[pV rb, .string s] (w.alloc (opB 2 s x)) fun e w' => e = .returned (.tuple #[.int .i64 y, .int .i64 c]) ∧ w' = w.alloc (opB 2 s x)) := H2
  have F : Hid (BB w0 (w.alloc (opB 2 s x)) cb rb NX R R) := A.lose
  have nb := A.box (adX_self _ _ _)
  have z0 : (w.alloc (opB 2 s x)).cell? ⟨w.heap.size, 0, none⟩ = some (.int .i64 2) := by rw [cell_of nb]; rfl
  have z1 : (w.alloc (opB 2 s x)).cell? ⟨w.heap.size, 1, none⟩ = some (.string s) := by rw [cell_of nb]; rfl
  have z2 : (w.alloc (opB 2 s x)).cell? ⟨w.heap.size, 2, none⟩ = some (.int .i64 x) := by rw [cell_of nb]; rfl
  clear nb A hR h hy H1 H2
  go_enter Try.func11, Try.ntmps11
  go_upto_region 1 with fail
  generalize w.alloc (opB 2 s x) = W0 at *
  generalize w.heap.size = bx at *
  go_wp2_with (first | (go_at_call 18; refine G1.out.mono ?_; rintro e w3 ⟨rfl, rfl⟩) | (go_at_call 22; refine G2.out.mono ?_; rintro e w4 ⟨rfl, rfl⟩))
  go_ret
  exact ⟨ret_b (by simp), R, F.out⟩
set_option maxHeartbeats 2000000 in
theorem step3 (h : BB w0 w cb rb NX R R) (s : ByteArray) (x : Int) (hs : s.size ≤ 281474976710656) :
    Calls Try.prog 11 #[pV cb, pV rb, .agg #[.int .i64 3, .string s, .int .i64 x]] w fun e w' => e = .returned (.bool true) ∧ ∃ R', BB w0 w' cb rb NX R' R' := by
  have A := h.alloc (opB 3 s x)
  have hR := h.srt
  have hs' : s.size ≤ maxLen := Nat.le_trans hs (by decide)
  obtain ⟨c, hc⟩ : ∃ c, c = canC s.data.toList R := ⟨_, rfl⟩
  have H1 : Hid (Calls Try.prog 19 #[pV cb, .string s] (w.alloc (opB 3 s x)).drew fun e w' => e = .returned (.int .i64 c) ∧ (w'.cell? ⟨w.heap.size, 1, none⟩ = some (.string s) ∧ w'.cell? ⟨w.heap.size, 2, none⟩ = some (.int .i64 x)) ∧ Hid (Calls Try.prog 23 #[pV rb, .string s] w' fun e w2 => e = .returned (.int .i64 c) ∧ (w2.cell? ⟨w.heap.size, 1, none⟩ = some (.string s) ∧ w2.cell? ⟨w.heap.size, 2, none⟩ = some (.int .i64 x)) ∧ Hid (∃ R', BB w0 w2 cb rb NX R' R'))) := by
    refine (b_cancel (A.below (w' := (w.alloc (opB 3 s x)).drew) ((Below.refl _ _).drew)) s hs').mono ?_
    rintro e w' ⟨rfl, h1⟩
    have nb := h1.box (adX_self _ _ _)
    refine ⟨by rw [hc], ⟨by rw [cell_of nb]; rfl, by rw [cell_of nb]; rfl⟩, ?_⟩
    refine (b_rcancel h1 hR s).mono ?_
    rintro e w2 ⟨rfl, h2⟩
    have nb := h2.box (adX_self _ _ _)
    exact ⟨by rw [hc], ⟨by rw [cell_of nb]; rfl, by rw [cell_of nb]; rfl⟩, _, h2.lose⟩
  have nb := A.box (adX_self _ _ _)
  have z0 : (w.alloc (opB 3 s x)).cell? ⟨w.heap.size, 0, none⟩ = some (.int .i64 3) := by rw [cell_of nb]; rfl
  have z1 : (w.alloc (opB 3 s x)).cell? ⟨w.heap.size, 1, none⟩ = some (.string s) := by rw [cell_of nb]; rfl
  have z2 : (w.alloc (opB 3 s x)).cell? ⟨w.heap.size, 2, none⟩ = some (.int .i64 x) := by rw [cell_of nb]; rfl
  clear nb A hc hR h
  go_enter Try.func11, Try.ntmps11
  go_upto_region 1 with fail
  generalize w.alloc (opB 3 s x) = W0 at *
  generalize w.heap.size = bx at *
  go_upto_region 9 with fail
  have zz : W0.cell? ⟨bx, 1, none⟩ = some (.string s) ∧ W0.cell? ⟨bx, 2, none⟩ = some (.int .i64 x) := ⟨z1, z2⟩
  go_region_held3 (fun w' : World => w'.cell? ⟨bx, 1, none⟩ = some (.string s) ∧ w'.cell? ⟨bx, 2, none⟩ = some (.int .i64 x)) (first | (with_reducible assumption) | (with_reducible exact z4) | (with_reducible exact z3) | (with_reducible exact zz) | (exact zz) | go_keep) (first | (go_at_call 19; refine H1.out.mono ?_; rintro e w3 ⟨rfl, z3, h3⟩) | (go_at_call 23; refine h3.out.mono ?_; rintro e w4 ⟨rfl, z4, h4⟩))
  all_goals go_wp2_with fail
  all_goals go_ret
  all_goals exact ⟨ret_b (by simp), h4.out⟩
set_option maxHeartbeats 2000000 in
theorem step4 (h : BB w0 w cb rb NX R R) (s : ByteArray) (x : Int) (hs : s.size ≤ 281474976710656) :
    Calls Try.prog 11 #[pV cb, pV rb, .agg #[.int .i64 4, .string s, .int .i64 x]] w fun e w' => e = .returned (.bool true) ∧ ∃ R', BB w0 w' cb rb NX R' R' := by
  have A := h.alloc (opB 4 s x)
  have hR := h.srt
  have hs' : s.size ≤ maxLen := Nat.le_trans hs (by decide)
  obtain ⟨y, z, c, hy⟩ : ∃ y z c, nextV R.head? = .tuple #[.agg #[.string y, .int .i64 z], .int .i64 c] := by
    cases R.head? with
    | none => exact ⟨_, _, _, rfl⟩
    | some a => exact ⟨_, _, _, rfl⟩
  have H1 : Hid (Calls Try.prog 20 #[pV cb] (w.alloc (opB 4 s x)) fun e w' => e = .returned (.tuple #[.agg #[.string y, .int .i64 z], .int .i64 c]) ∧ Hid (BB w0 w' cb rb NX R R)) := by
    refine (b_next A).mono ?_
    rintro e w' ⟨rfl, h1⟩
    exact ⟨by rw [hy], h1.lose⟩
  have H2 : Hid (∀ W Y, BB w0 W cb rb Y R R → Calls Try.prog 24 #[pV rb] W fun e w' => e = .returned (.tuple #[.agg #[.string y, .int .i64 z], .int .i64 c]) ∧ Hid (BB w0 w' cb rb Y R R)) := fun W Y h => by
    refine (b_rnext h).mono ?_
    rintro e w' ⟨rfl, h1⟩
    exact ⟨by rw [hy], h1⟩
  have nb := A.box (adX_self _ _ _)
  have z0 : (w.alloc (opB 4 s x)).cell? ⟨w.heap.size, 0, none⟩ = some (.int .i64 4) := by rw [cell_of nb]; rfl
  have z1 : (w.alloc (opB 4 s x)).cell? ⟨w.heap.size, 1, none⟩ = some (.string s) := by rw [cell_of nb]; rfl
  have z2 : (w.alloc (opB 4 s x)).cell? ⟨w.heap.size, 2, none⟩ = some (.int .i64 x) := by rw [cell_of nb]; rfl
  clear nb A hR h hy
  go_enter Try.func11, Try.ntmps11
  go_upto_region 1 with fail
  generalize w.alloc (opB 4 s x) = W0 at *
  generalize w.heap.size = bx at *
  go_upto_region 12 with (go_at_call 20; refine H1.out.mono ?_; rintro e w3 ⟨rfl, h3⟩)
  have A3 := h3.out.alloc (.cells #[.string y, .int .i64 z] 45 (0, 0))
  have HA3 : Hid (BB w0 (w3.alloc (.cells #[.string y, .int .i64 z] 45 (0, 0))) cb rb (adX NX w3.heap.size (.cells #[.string y, .int .i64 z] 45 (0, 0))) R R) := A3
  clear A3 h3 H1 z0 z1 z2
  generalize w3.alloc (.cells #[.string y, .int .i64 z] 45 (0, 0)) = W3 at *
  generalize w3.heap.size = b3 at *
  have H3 : Hid (Calls Try.prog 24 #[pV rb] W3 fun e w' => e = .returned (.tuple #[.agg #[.string y, .int .i64 z], .int .i64 c]) ∧ Hid (BB w0 w' cb rb (adX NX b3 (.cells #[.string y, .int .i64 z] 45 (0, 0))) R R)) := H2.out _ _ HA3.out
  go_upto_region 13 with (go_at_call 24; refine H3.out.mono ?_; rintro e w4 ⟨rfl, h4⟩)
  have A4 := h4.out.alloc (.cells #[.string y, .int .i64 z] 47 (0, 0))
  have n4 := A4.box (adX_self _ _ _)
  have n3 := A4.lose
  have q0 : (w4.alloc (.cells #[.string y, .int .i64 z] 47 (0, 0))).cell? ⟨w4.heap.size, 0, none⟩ = some (.string y) := by rw [cell_of n4]; rfl
  have q1 : (w4.alloc (.cells #[.string y, .int .i64 z] 47 (0, 0))).cell? ⟨w4.heap.size, 1, none⟩ = some (.int .i64 z) := by rw [cell_of n4]; rfl
  have n5 : (w4.alloc (.cells #[.string y, .int .i64 z] 47 (0, 0))).heap[b3]? = some (.cells #[.string y, .int .i64 z] 45 (0, 0)) := by
    have h5 := h4.out.box (adX_self _ _ _)
    rw [((Below.refl _ w4).alloc (Nat.le_refl _) _).block _ (Array.getElem?_eq_some_iff.1 h5).1]
    exact h5
  have p0 : (w4.alloc (.cells #[.string y, .int .i64 z] 47 (0, 0))).cell? ⟨b3, 0, none⟩ = some (.string y) := by rw [cell_of n5]; rfl
  have p1 : (w4.alloc (.cells #[.string y, .int .i64 z] 47 (0, 0))).cell? ⟨b3, 1, none⟩ = some (.int .i64 z) := by rw [cell_of n5]; rfl
  have F : Hid (BB w0 (w4.alloc (.cells #[.string y, .int .i64 z] 47 (0, 0))) cb rb NX R R) := n3
  clear n3 n4 n5 A4 h4 H3 HA3 H2
  generalize w4.alloc (.cells #[.string y, .int .i64 z] 47 (0, 0)) = W4 at *
  generalize w4.heap.size = b4 at *
  go_wp2_with fail
  go_ret
  exact ⟨ret_b (by simp), R, F.out⟩
set_option maxHeartbeats 2000000 in
theorem step5 (h : BB w0 w cb rb NX R R) (s : ByteArray) (x : Int) (hs : s.size ≤ 281474976710656) :
    Calls Try.prog 11 #[pV cb, pV rb, .agg #[.int .i64 5, .string s, .int .i64 x]] w fun e w' => e = .returned (.bool true) ∧ ∃ R', BB w0 w' cb rb NX R' R' := by
  have A := h.alloc (opB 5 s x)
  have hR := h.srt
  have hs' : s.size ≤ maxLen := Nat.le_trans hs (by decide)
  obtain ⟨T, hT⟩ : ∃ T, T = pw x R := ⟨_, rfl⟩
  have hTl : T.length ≤ 1024 := by
    have := congrArg List.length (pw_dw x R)
    rw [List.length_append, ← hT] at this
    omega
  have H1 : Hid (Calls Try.prog 14 #[pV cb, .int .i64 x] (w.alloc (opB 5 s x)).drew fun e w' => ∃ u1, e = .returned u1 ∧ (w'.cell? ⟨w.heap.size, 2, none⟩ = some (.int .i64 x)) ∧ Hid (Calls Try.prog 15 #[pV rb, .int .i64 x] w' fun e w2 => ∃ u2, e = .returned u2 ∧ (w2.cell? ⟨w.heap.size, 2, none⟩ = some (.int .i64 x)) ∧ Hid (Calls Try.prog 13 #[u1, u2] w2 fun e w3 => e = .returned (.bool true) ∧ (w3.cell? ⟨w.heap.size, 2, none⟩ = some (.int .i64 x)) ∧ Hid (∃ R', BB w0 w3 cb rb NX R' R')))) := by
    refine (b_dues (A.below (w' := (w.alloc (opB 5 s x)).drew) ((Below.refl _ _).drew)) x).mono ?_
    rintro e w' ⟨u1, rfl, h1, h2⟩
    have nb := h1.box (adX_self _ _ _)
    refine ⟨u1, rfl, by rw [cell_of nb]; rfl, ?_⟩
    refine (h2 w' (Below.refl _ _)).mono ?_
    rintro e w2 ⟨u2, rfl, h3, h4, h5⟩
    have nb := h3.box (adX_self _ _ _)
    refine ⟨u2, rfl, by rw [cell_of nb]; rfl, ?_⟩
    rw [← hT] at h4 h5
    refine (same_any h4 h5 hTl).mono ?_
    rintro e w3 ⟨rfl, b3⟩
    have nb := (h3.below b3).box (adX_self _ _ _)
    exact ⟨rfl, by rw [cell_of nb]; rfl, _, (h3.below b3).lose⟩
  have nb := A.box (adX_self _ _ _)
  have z0 : (w.alloc (opB 5 s x)).cell? ⟨w.heap.size, 0, none⟩ = some (.int .i64 5) := by rw [cell_of nb]; rfl
  have z1 : (w.alloc (opB 5 s x)).cell? ⟨w.heap.size, 1, none⟩ = some (.string s) := by rw [cell_of nb]; rfl
  have z2 : (w.alloc (opB 5 s x)).cell? ⟨w.heap.size, 2, none⟩ = some (.int .i64 x) := by rw [cell_of nb]; rfl
  clear nb A hR h hT hTl
  go_enter Try.func11, Try.ntmps11
  go_upto_region 1 with fail
  generalize w.alloc (opB 5 s x) = W0 at *
  generalize w.heap.size = bx at *
  go_upto_region 15 with fail
  clear z1 z0
  go_region_held3 (fun w' : World => w'.cell? ⟨bx, 2, none⟩ = some (.int .i64 x)) (first | (with_reducible assumption) | (with_reducible exact z5) | (with_reducible exact z4) | (with_reducible exact z3) | (with_reducible exact z2) | (exact z2) | go_keep) (first | (go_at_call 14; refine H1.out.mono ?_; rintro e w3 ⟨u1, rfl, z3, h3⟩) | (go_at_call 15; refine h3.out.mono ?_; rintro e w4 ⟨u2, rfl, z4, h4⟩) | (go_at_call 13; refine h4.out.mono ?_; rintro e w5 ⟨rfl, z5, h5⟩))
  all_goals go_wp2_with fail
  all_goals go_ret
  all_goals exact ⟨rfl, h5.out⟩
set_option maxHeartbeats 2000000 in
theorem step_go (h : BB w0 w cb rb NX R R) (k : Int) (s : ByteArray) (x : Int) (hs : s.size ≤ 281474976710656) :
    Calls Try.prog 11 #[pV cb, pV rb, .agg #[.int .i64 k, .string s, .int .i64 x]] w fun e w' => e = .returned (.bool true) ∧ ∃ R', BB w0 w' cb rb NX R' R' := by
  by_cases h1 : k = 1
  · subst h1; exact step1 h s x hs
  by_cases h2 : k = 2
  · subst h2; exact step2 h s x hs
  by_cases h3 : k = 3
  · subst h3; exact step3 h s x hs
  by_cases h4 : k = 4
  · subst h4; exact step4 h s x hs
  by_cases h5 : k = 5
  · subst h5; exact step5 h s x hs
  have e1 : (k == 1) = false := by simpa using h1
  have e2 : (k == 2) = false := by simpa using h2
  have e3 : (k == 3) = false := by simpa using h3
  have e4 : (k == 4) = false := by simpa using h4
  have e5 : (k == 5) = false := by simpa using h5
  have A := h.alloc (opB k s x)
  have F : Hid (BB w0 (w.alloc (opB k s x)) cb rb NX R R) := A.lose
  have nb := A.box (adX_self _ _ _)
  have z0 : (w.alloc (opB k s x)).cell? ⟨w.heap.size, 0, none⟩ = some (.int .i64 k) := by rw [cell_of nb]; rfl
  have z1 : (w.alloc (opB k s x)).cell? ⟨w.heap.size, 1, none⟩ = some (.string s) := by rw [cell_of nb]; rfl
  have z2 : (w.alloc (opB k s x)).cell? ⟨w.heap.size, 2, none⟩ = some (.int .i64 x) := by rw [cell_of nb]; rfl
  clear nb A h
  go_enter Try.func11, Try.ntmps11
  go_upto_region 1 with fail
  generalize w.alloc (opB k s x) = W0 at *
  generalize w.heap.size = bx at *
  go_wp2_with fail
  go_ret
  exact ⟨rfl, R, F.out⟩
end
end Go.Proofs.Ytnjnfbfjmeofaaa
