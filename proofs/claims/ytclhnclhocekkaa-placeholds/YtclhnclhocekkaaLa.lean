/-
  PlaceFits' law.
-/
import Derived.Test.YtclhnclhocekkaaRc
namespace Go.Proofs.Ytclhnclhocekkaa
open Go.RowKit Go.Maps Go.WideMaps Go.Sort

/-- tasks and slots, as they are handed in -/
structure Arg (w : World) (q r : Option Addr) (n c m d : Nat) (T : List V) (S : List Sl) : Prop where
  t : TA w q T
  s : SA w r S
  h : Short S
  c : q = none → c = 0
  d : r = none → d = 0
  n : T.length = n
  m : S.length = m
theorem Arg.below {w w1 : World} {q r : Option Addr} {n c m d : Nat} {T : List V} {S : List Sl} (h : Arg w q r n c m d T S) (b : Below w.heap.size w w1) : Arg w1 q r n c m d T S := ⟨h.t.below b, h.s.below b, h.h, h.c, h.d, h.n, h.m⟩
theorem rr_sa {b : Nat} {w : World} {p : Option Addr} {n c : Nat} {S : List Sl} (h : RR b w (.slice p n c) S) : SA w p S := h.ga slC_len
theorem rr_nil {b : Nat} {w : World} {p : Option Addr} {n c : Nat} {S : List Sl} (h : RR b w (.slice p n c) S) : p = none → c = 0 := fun e => by subst e; exact h.nilc
theorem fitG_len (T : List V) : ∀ (l : List Nat) (st st' : St), fitG T l st = some st' → st'.2.length = st.2.length ∧ st'.1.length = st.1.length
  | [], st, st', h => by cases h; exact ⟨rfl, rfl⟩
  | t :: r, st, st', h => by
    have h' : (stepF T t st).bind (fitG T r) = some st' := h
    obtain ⟨s1, h1, h2⟩ := Option.bind_eq_some_iff.1 h'
    obtain ⟨i1, i2⟩ := fitG_len T r s1 st' h2
    unfold stepF at h1
    split at h1
    · cases h1
    · cases h1
      rw [List.length_set] at i1
      rw [setV_length] at i2
      exact ⟨i1, i2⟩
theorem fitR_len (T : List V) (S : List Sl) : ((fitR T S).1 = 0 ∧ (fitR T S).2.length = T.length ∧ chk T S = 0) ∨ ((fitR T S).1 ≠ 0 ∧ (fitR T S).2 = []) := by
  unfold fitR
  split
  · rename_i hc
    split
    · exact .inr ⟨by decide, rfl⟩
    · rename_i st h
      have := (fitG_len T _ _ _ h).1
      exact .inl ⟨rfl, by rw [this]; unfold fit0; rw [List.length_replicate], hc⟩
  · rename_i hc
    exact .inr ⟨hc, rfl⟩
theorem fitR_le (T : List V) (S : List Sl) : (fitR T S).2.length ≤ T.length := by
  rcases fitR_len T S with ⟨_, h, _⟩ | ⟨_, h⟩
  · omega
  · rw [h]; exact Nat.zero_le _
set_option maxHeartbeats 2000000 in
set_option maxRecDepth 100000 in
theorem fits_law (q r : Option Addr) (n c m d : Nat) (T : List V) (S : List Sl) (w : World) (hA : Arg w q r n c m d T S) :
    Calls Try.prog 3 #[.slice q n c, .slice r m d] w fun e w' => e = .returned (.bool true) ∧ Below w.heap.size w w' := by
  have H9 : Hid (∀ w, Calls Try.prog 9 #[] w fun e w' => e = .returned (.bool true) ∧ Hid (Below w.heap.size w w')) := fun w => awake_any w
  have H10 : Hid (∀ w, Calls Try.prog 10 #[.slice q n c, .slice r m d] w fun e w' => e = .returned (.bool (fewB n m)) ∧ Hid (Below w.heap.size w w')) := fun w => few_any q r n c m d w
  have HA : Hid (Arg w q r n c m d T S) := hA
  clear hA
  cases hf : fewB n m with
  | false =>
    rw [hf] at H10
    go_enter Try.func3, Try.ntmps3
    go_upto_region 2 with (first | (go_at_call 9; refine (H9.out _).mono ?_; rintro e w1 ⟨rfl, b1⟩) | (go_at_call 10; refine (H10.out _).mono ?_; rintro e w2 ⟨rfl, b2⟩))
    go_wp2_with (go_at_call 9; refine (H9.out _).mono ?_; rintro e w3 ⟨rfl, b3⟩)
    go_ret
    exact ⟨rfl, below_from (below_from b1.out b2.out b1.out.size) b3.out (by have := b1.out.size; have := b2.out.size; omega)⟩
  | true =>
    have hnm : n ≤ 100 ∧ m ≤ 100 := by unfold fewB at hf; simpa using hf
    obtain ⟨n1, m1⟩ := hnm
    rw [hf] at H10
    clear hf
    have H11 : Hid (∀ w1, Below w.heap.size w w1 → Calls Try.prog 11 #[.slice q n c, .slice r m d] w1 (FitP w1 T S)) := fun w1 b => by
      have h := HA.out.below b
      exact fit_any T S q r n c m d w1 h.t h.s h.h h.d h.n h.m (by omega) (by omega)
    have H13 : Hid (∀ w1, Below w.heap.size w w1 → Calls Try.prog 13 #[.slice r m d] w1 fun e w' => ∃ p c', e = .returned (.slice p m c') ∧ Hid (RR w1.heap.size w' (.slice p m c') S ∧ Below w1.heap.size w1 w')) := fun w1 b => by
      have h := HA.out.below b
      exact plain_any w1 r m d S h.m (by omega) h.s
    have H12 : Hid (∀ w1, Below w.heap.size w w1 → ∀ b p c', RR b w1 (.slice p m c') S → Calls Try.prog 12 #[.slice q n c, .slice p m c'] w1 (FitP w1 T S)) := fun w1 b b0 p c' hr => by
      have h := HA.out.below b
      exact rfit_any T S q p n c m c' w1 h.t (rr_sa hr) h.h (rr_nil hr) h.n h.m (by omega) (by omega)
    have HAN : Hid (T.length = n) := HA.out.n
    clear HA
    go_enter Try.func3, Try.ntmps3
    go_upto_region 3 with (first | (go_at_call 9; refine (H9.out _).mono ?_; rintro e w1 ⟨rfl, b1⟩) | (go_at_call 10; refine (H10.out _).mono ?_; rintro e w2 ⟨rfl, b2⟩))
    have B2 : Hid (Below w.heap.size w w2) := below_from b1.out b2.out b1.out.size
    clear b1 b2 H9 H10
    go_upto_region 4 with (go_at_call 11; refine (H11.out _ B2.out).mono ?_; rintro e w3 ⟨q1, k, c1, rfl, hk, -, h3⟩)
    have B3 : Hid (Below w.heap.size w w3 ∧ NA w3 q1 (fitR T S).2) := ⟨below_from B2.out h3.out.2 B2.out.size, h3.out.1⟩
    clear B2 h3 H11
    obtain ⟨er, her⟩ : ∃ er, er = (fitR T S).1 := ⟨_, rfl⟩
    rw [← her]
    go_upto_region 5 with (first | (go_at_call 13; refine (H13.out _ B3.out.1).mono ?_; rintro e w4 ⟨p, c', rfl, h4⟩; have B4 : Hid (Below w.heap.size w w4 ∧ NA w4 q1 (fitR T S).2) := ⟨below_from B3.out.1 h4.out.2 B3.out.1.size, B3.out.2.below h4.out.2⟩) | (go_at_call 12; refine (H12.out _ B4.out.1 _ _ _ h4.out.1).mono ?_; rintro e w5 ⟨q2, k2, c2, rfl, hk2, -, h5⟩))
    have B5 : Hid (Below w.heap.size w w5 ∧ NA w5 q1 (fitR T S).2 ∧ NA w5 q2 (fitR T S).2) := ⟨below_from B4.out.1 h5.out.2 B4.out.1.size, B4.out.2.below h5.out.2, h5.out.1⟩
    rw [← her]
    obtain rfl : k = k2 := hk.symm.trans hk2
    have hkl : k ≤ 100 := by
      have h1 := fitR_le T S
      have h2 := HAN.out
      omega
    have H14 : Hid (Calls Try.prog 14 #[.slice q1 k c1, .slice q2 k c2] w5 fun e w' => e = .returned (.bool true) ∧ Hid (Below w5.heap.size w5 w')) := same_any w5 k c1 c2 q1 q2 (fitR T S).2 B5.out.2.1 B5.out.2.2 hk (by omega)
    clear B3 B4 h4 h5 H12 H13
    go_wp2_with (go_at_call 14; refine H14.out.mono ?_; rintro e w6 ⟨rfl, b6⟩)
    go_ret
    exact ⟨rfl, below_from B5.out.1 b6.out B5.out.1.size⟩
end Go.Proofs.Ytclhnclhocekkaa
