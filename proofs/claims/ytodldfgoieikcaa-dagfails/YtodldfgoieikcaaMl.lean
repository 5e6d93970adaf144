/-
  Fail; the calls on no graph; awake.
-/
import Derived.Test.YtodldfgoieikcaaMk
namespace Go.Proofs.Ytodldfgoieikcaa
open Go.RowKit Go.Maps

inductive FailR (g : GS) (x : Int) : List Int → Int → GS → Prop
  | none : hasB g x = false → FailR g x [] 3 g
  | state (i : Nat) : x = i → 1 ≤ i → i < 101 → g.st i ≠ 0 → g.st i ≠ 1 → FailR g x [] 10 g
  | ok (i : Nat) (f : Nat → Bool) : x = i → 1 ≤ i → i < 101 → g.st i = 1 → (∀ j, f j = true ↔ Dsc g i j) → FailR g x (lsI f) 0 (g.fails i f)
set_option maxHeartbeats 1000000 in
set_option maxRecDepth 100000 in
theorem fail_any {w : World} {gb : Nat} {g : GS} (h : Gr w gb g) (x : Int) :
    Calls Try.prog 19 #[.pointer (some ⟨gb, 0, none⟩), .int .i64 x] w fun e w' => ∃ (p : Option Addr) (n c : Nat) (er : Int), e = .returned (.tuple #[.slice p n c, .int .i64 er]) ∧ n ≤ 101 ∧ Hid (OutP w w' gb (FailR g x) (.slice p n c) n er) := by
  have H25 : Hid (∀ w, Gr w gb g → Calls Try.prog 25 #[.pointer (some ⟨gb, 0, none⟩), .int .i64 x] w fun e w' => e = .returned (.bool (hasB g x)) ∧ w' = w) := fun w h => has_any h x
  have HG : Hid (Gr w gb g) := h
  clear h
  cases hx : hasB g x
  · have HX : Hid (hasB g x = false) := hx
    go_enter Try.func19, Try.ntmps19
    go_wp2_with (go_at_call 25; refine (H25.out _ HG.out).mono ?_; rintro e w1 ⟨rfl, rfl⟩; rw [hx])
    go_ret2
    exact ⟨none, 0, 0, 3, rfl, by omega, [], g, .none HX.out, rfl, IRow.nil _ _, HG.out, Kp.refl _ _⟩
  · obtain ⟨i, rfl, h1, h2, h3⟩ := hasB_nat hx
    have hi' : (i : Int) < 101 := by omega
    have c0 := HG.out.s i h2
    by_cases hs : g.st i = 1
    · have hs' : (((g.st i : Nat) : Int) != 1) = false := by simp [hs]
      have f0 := HG.out.fz (i * 102)
      have hg2 : Gr (w.setCell ⟨gb, i * 102, none⟩ (.int .u8 3)) gb (g.fails i s0) := by rw [← fails_zero]; exact HG.out.setst i 3 h2
      have hb2 : (w.setCell ⟨gb, i * 102, none⟩ (.int .u8 3)).heap.size = w.heap.size := by simp [World.setCell]
      have H34 : Hid (Calls Try.prog 34 #[.pointer (some ⟨gb, 0, none⟩), .int .i64 i] (w.setCell ⟨gb, i * 102, none⟩ (.int .u8 3)) fun e w' => ∃ f : Nat → Bool, e = .returned (.agg (sA f)) ∧ Hid (Calls Try.prog 32 #[.agg (sA f)] w' fun e w' => ∃ (p : Option Addr) (n c : Nat), e = .returned (.slice p n c) ∧ n ≤ 101 ∧ Hid (OutP w w' gb (FailR g i) (.slice p n c) n 0))) := by
        refine (fb_any hg2 h2).mono ?_
        rintro e w1 ⟨f, rfl, hf⟩
        refine ⟨f, rfl, (list_any w1 _).mono ?_⟩
        rintro e w2 ⟨p, n, c, rfl, hn, h5⟩
        refine ⟨p, n, c, rfl, hn, _, _, .ok i f rfl h1 h2 hs hf.out.1, h5.out.1, h5.out.2.1.mono (by have := hf.out.2.2.size; omega), hf.out.2.1.grow h5.out.2.2, ((Kp.of_set (S := fun k => k = gb) w _ _ rfl).trans hf.out.2.2 fun k _ h => h).trans (Kp.of_below (S := fun k => k = gb) h5.out.2.2) fun k _ h => h⟩
      clear h3 hg2 hb2 hs
      go_enter Try.func19, Try.ntmps19
      go_upto_region 6 with (go_at_call 25; refine (H25.out _ HG.out).mono ?_; rintro e w1 ⟨rfl, rfl⟩; rw [hx])
      go_wp2_with (first | (go_at_call 34; refine H34.out.mono ?_; rintro e w2 ⟨f, rfl, h2⟩) | (go_at_call 32; refine h2.out.mono ?_; rintro e w3 ⟨p, n, c, rfl, hn, h3⟩))
      go_ret2
      exact ⟨p, n, c, 0, rfl, hn, h3.out⟩
    · have hs' : (((g.st i : Nat) : Int) != 1) = true := by simp; omega
      have HA : Hid (FailR g i [] 10 g) := .state i rfl h1 h2 h3 hs
      clear h3 hs
      go_enter Try.func19, Try.ntmps19
      go_wp2_with (go_at_call 25; refine (H25.out _ HG.out).mono ?_; rintro e w1 ⟨rfl, rfl⟩; rw [hx])
      go_ret2
      exact ⟨none, 0, 0, 10, rfl, by omega, [], g, HA.out, rfl, IRow.nil _ _, HG.out, Kp.refl _ _⟩
set_option maxHeartbeats 400000 in
theorem fail_nil (x : Int) (w : World) : Calls Try.prog 19 #[.pointer none, .int .i64 x] w fun e w' => e = .returned (.tuple #[.slice none 0 0, .int .i64 3]) ∧ w' = w := by
  have H25 : Hid (∀ w, Calls Try.prog 25 #[.pointer none, .int .i64 x] w fun e w' => e = .returned (.bool false) ∧ w' = w) := has_nil x
  go_enter Try.func19, Try.ntmps19
  go_wp2_with (go_at_call 25; refine (H25.out _).mono ?_; rintro e w1 ⟨rfl, rfl⟩)
  go_ret2
  exact ⟨rfl, rfl⟩
set_option maxHeartbeats 400000 in
theorem add_nil (x : Int) (v : Value) (w : World) : Calls Try.prog 15 #[.pointer none, .int .i64 x, v] w fun e w' => e = .returned (.tuple #[.bool false, .int .i64 10]) ∧ w' = w := by
  go_enter Try.func15, Try.ntmps15
  go_wp2_with fail
  go_ret2
  exact ⟨rfl, rfl⟩

/-! ### one answer -/
theorem AddR.uniq {g : GS} {x : Int} {E : List Int} {a b : Bool} {e f : Int} {g1 g2 : GS} (h : AddR g x E a e g1) (k : AddR g x E b f g2) : a = b ∧ e = f ∧ g1 = g2 := by
  have key : ∀ {i j : Nat}, x = i → x = j → i = j := fun h1 h2 => by omega
  cases h with
  | range h1 =>
    cases k with
    | range => exact ⟨rfl, rfl, rfl⟩
    | twice j k1 k2 k3 k4 => rw [k1, k2, isN_of k3 k4] at h1; cases h1
    | cycle j k1 k2 k3 k4 => rw [k1, k2, isN_of k3 k4] at h1; cases h1
    | state j k1 k2 k3 k4 => rw [k1, k2, isN_of k3 k4] at h1; cases h1
    | ok j k1 k2 k3 k4 => rw [k1, k2, isN_of k3 k4] at h1; cases h1
  | twice i h1 h2 h3 h4 h5 =>
    cases k with
    | range k1 => rw [h1, h2, isN_of h3 h4] at k1; cases k1
    | twice j k1 k2 k3 k4 => exact ⟨rfl, rfl, rfl⟩
    | cycle j k1 k2 k3 k4 k5 => rw [key k2 h2] at k5; exact absurd k5 h5
    | state j k1 k2 k3 k4 k5 => rw [key k2 h2] at k5; exact absurd k5 h5
    | ok j k1 k2 k3 k4 k5 => rw [key k2 h2] at k5; exact absurd k5 h5
  | cycle i h1 h2 h3 h4 h5 h6 =>
    cases k with
    | range k1 => rw [h1, h2, isN_of h3 h4] at k1; cases k1
    | twice j k1 k2 k3 k4 k5 => rw [key k2 h2] at k5; exact absurd h5 k5
    | cycle j k1 k2 k3 k4 k5 => exact ⟨rfl, rfl, rfl⟩
    | state j k1 k2 k3 k4 k5 k6 => rw [key k2 h2] at k6; exact absurd h6 k6
    | ok j k1 k2 k3 k4 k5 k6 => rw [key k2 h2] at k6; exact absurd h6 k6
  | state i h1 h2 h3 h4 h5 h6 h7 =>
    cases k with
    | range k1 => rw [h1, h2, isN_of h3 h4] at k1; cases k1
    | twice j k1 k2 k3 k4 k5 => rw [key k2 h2] at k5; exact absurd h5 k5
    | cycle j k1 k2 k3 k4 k5 k6 => rw [key k2 h2] at k6; exact absurd k6 h6
    | state j k1 k2 k3 k4 k5 k6 => exact ⟨rfl, rfl, rfl⟩
    | ok j k1 k2 k3 k4 k5 k6 k7 => rw [h7] at k7; cases k7
  | ok i h1 h2 h3 h4 h5 h6 h7 =>
    cases k with
    | range k1 => rw [h1, h2, isN_of h3 h4] at k1; cases k1
    | twice j k1 k2 k3 k4 k5 => rw [key k2 h2] at k5; exact absurd h5 k5
    | cycle j k1 k2 k3 k4 k5 k6 => rw [key k2 h2] at k6; exact absurd k6 h6
    | state j k1 k2 k3 k4 k5 k6 k7 => rw [h7] at k7; cases k7
    | ok j k1 k2 k3 k4 k5 k6 k7 => rw [key k2 h2]; exact ⟨rfl, rfl, rfl⟩

/-! ### awake -/
theorem allN_nil : allN [] = true := rfl
theorem no_rch {ps : Nat → Nat → Bool} {s : Nat → Bool} (h : ∀ i, i < 101 → s i = false) : ∀ i, ¬ Rch ps s i := fun i q => by
  induction q with
  | base h1 h2 => rw [h _ h1] at h2; cases h2
  | step _ _ _ ih => exact ih
theorem add_first : AddR g0 1 [] true 0 (g0.add 1 s0) := by
  have h := AddR.ok (g := g0) (x := 1) (E := []) 1 allN_nil rfl (by omega) (by omega) rfl (no_rch (fun i _ => by rw [stI_nil]; rfl) 1) (by
    cases e : afB g0 (stI [])
    · rfl
    · obtain ⟨j, _, h2, _⟩ := afB_iff.1 e; rw [stI_nil] at h2; cases h2)
  rw [stI_nil] at h
  have e : frB (g0.add 1 s0) 1 = true := frB_iff.2 ⟨rfl, fun j _ h => by cases h⟩
  rw [e] at h
  exact h
set_option maxHeartbeats 1000000 in
set_option maxRecDepth 100000 in
theorem awake_any (w0 w : World) (hb : Below w0.heap.size w0 w) : Calls Try.prog 9 #[] w fun e w' => e = .returned (.bool true) ∧ Hid (Below w0.heap.size w0 w') := by
  have HN : Hid (Calls Try.prog 11 #[] w fun e w' => e = .returned (.pointer (some ⟨w.heap.size, 0, none⟩)) ∧ Hid (Calls Try.prog 15 #[.pointer (some ⟨w.heap.size, 0, none⟩), .int .i64 1, .slice none 0 0] w' fun e w' => e = .returned (.tuple #[.bool true, .int .i64 0]) ∧ Hid (Calls Try.prog 13 #[.pointer (some ⟨w.heap.size, 0, none⟩), .int .i64 1] w' fun e w' => e = .returned (.bool true) ∧ Hid (Below w0.heap.size w0 w')))) := by
    refine (new_any w).mono ?_
    rintro e w1 ⟨rfl, rfl⟩
    refine ⟨rfl, (add_any (gr_new w) 1 none 0 0 [] rfl (AI.nil _ _) (by omega)).mono ?_⟩
    rintro e w2 ⟨a, er, rfl, g', h1, h2, h3⟩
    obtain ⟨rfl, rfl, rfl⟩ := h1.uniq add_first
    refine ⟨rfl, (free_any h2 1).mono ?_⟩
    rintro e w3 ⟨rfl, rfl⟩
    refine ⟨?_, ?_⟩
    · have e1 : hasB (g0.add 1 s0) 1 = true := hasB_iff.2 ⟨1, rfl, by omega, by omega, by decide⟩
      have e2 : frB (g0.add 1 s0) 1 = true := frB_iff.2 ⟨rfl, fun j _ h => by cases h⟩
      have e3 : freeB (g0.add 1 s0) 1 = true := by unfold freeB; rw [e1]; exact e2
      rw [e3]
    · have hb2 : Below w0.heap.size w0 (w.alloc (.cells zA 54)) := hb.alloc hb.size _
      have hs := hb.size
      exact ⟨h3.os.trans hb2.os, h3.tape.trans hb2.tape, h3.output.trans hb2.output, Nat.le_trans hb2.size h3.size, fun k hk => (h3.block k (Nat.lt_of_lt_of_le hk hb2.size) (by show ¬ k = w.heap.size; omega)).trans (hb2.block k hk)⟩
  go_enter Try.func9, Try.ntmps9
  go_wp2_with (first
    | (go_at_call 11; refine HN.out.mono ?_; rintro e w1 ⟨rfl, h1⟩)
    | (go_at_call 15; refine h1.out.mono ?_; rintro e w2 ⟨rfl, h2⟩)
    | (go_at_call 13; refine h2.out.mono ?_; rintro e w3 ⟨rfl, h3⟩))
  go_ret
  exact ⟨rfl, h3.out⟩
end Go.Proofs.Ytodldfgoieikcaa
