/-
  PlaceBack's law.
-/
import Derived.Test.YtclhnclhocekkaaMt
import Derived.Test.YtclhnclhocekkaaLk
namespace Go.Proofs.Ytclhnclhocekkaa
open Go.RowKit Go.Maps Go.WideMaps Go.Sort

set_option maxHeartbeats 4000000 in
set_option maxRecDepth 100000 in
theorem back_law (q r : Option Addr) (n c m d : Nat) (T : List V) (S : List Sl) (w : World) (hA : Arg w q r n c m d T S) :
    Calls Try.prog 6 #[.slice q n c, .slice r m d] w fun e w' => e = .returned (.bool true) ∧ Below w.heap.size w w' := by
  have H9 : Hid (∀ w, Calls Try.prog 9 #[] w fun e w' => e = .returned (.bool true) ∧ Hid (Below w.heap.size w w')) := fun w => awake_any w
  have H10 : Hid (∀ w, Calls Try.prog 10 #[.slice q n c, .slice r m d] w fun e w' => e = .returned (.bool (fewB n m)) ∧ Hid (Below w.heap.size w w')) := fun w => few_any q r n c m d w
  have HA : Hid (Arg w q r n c m d T S) := hA
  clear hA
  cases hf : fewB n m with
  | false =>
    rw [hf] at H10
    go_enter Try.func6, Try.ntmps6
    go_upto_region 2 with (first | (go_at_call 9; refine (H9.out _).mono ?_; rintro e w1 ⟨rfl, b1⟩) | (go_at_call 10; refine (H10.out _).mono ?_; rintro e w2 ⟨rfl, b2⟩))
    go_wp2_with (go_at_call 9; refine (H9.out _).mono ?_; rintro e w3 ⟨rfl, b3⟩)
    go_ret
    exact ⟨rfl, below_from (below_from b1.out b2.out b1.out.size) b3.out (by have := b1.out.size; have := b2.out.size; omega)⟩
  | true =>
    obtain ⟨n1, m1⟩ := few_le hf
    rw [hf] at H10
    clear hf
    go_enter Try.func6, Try.ntmps6
    go_upto_region 3 with (first | (go_at_call 9; refine (H9.out _).mono ?_; rintro e w1 ⟨rfl, b1⟩) | (go_at_call 10; refine (H10.out _).mono ?_; rintro e w2 ⟨rfl, b2⟩))
    have A2 : Hid (Arg w2 q r n c m d T S ∧ Below w.heap.size w w2) := ⟨(HA.out.below b1.out).below b2.out, below_from b1.out b2.out b1.out.size⟩
    clear b1 b2 H9 H10 HA
    have H11 : Hid (Calls Try.prog 11 #[.slice q n c, .slice r m d] w2 (FitP w2 T S)) := fit_any T S q r n c m d w2 A2.out.1.t A2.out.1.s A2.out.1.h A2.out.1.d A2.out.1.n A2.out.1.m (by omega) (by omega)
    go_upto_region 4 with (go_at_call 11; refine H11.out.mono ?_; rintro e w3 ⟨qn, kn, cn, rfl, hkn, -, h3⟩)
    have A3 : Hid (Arg w3 q r n c m d T S ∧ Below w.heap.size w w3 ∧ NA w3 qn (fitR T S).2) := ⟨A2.out.1.below h3.out.2, below_from A2.out.2 h3.out.2 A2.out.2.size, h3.out.1⟩
    clear A2 h3 H11
    by_cases he : (fitR T S).1 = 0
    · have HB : Hid ((movR subR T (fitR T S).2 S).1 = 0 ∧ movR addR T (fitR T S).2 (movR subR T (fitR T S).2 S).2 = (0, S)) := fit_back he
      have kn1 : kn ≤ 100 := by have := fitR_le T S; have := A3.out.1.n; omega
      have HNS : Hid (∀ s ∈ (fitR T S).2, s.length ≤ 281474976710656) := fitR_short A3.out.1.h
      have HKN : Hid ((fitR T S).2.length = kn) := hkn
      rw [he]
      clear he hkn
      generalize (fitR T S).2 = N at *
      have H15 : Hid (Calls Try.prog 15 #[.slice q n c, .slice qn kn cn, .slice r m d] w3 (MovP subR w3 T N S)) := after_any T N S q qn r n c kn cn m d w3 A3.out.1 A3.out.2.2 HNS.out HKN.out (by omega) (by omega) (by omega)
      go_upto_region 7 with (go_at_call 15; refine H15.out.mono ?_; rintro e w4 ⟨pa, ka, ca, rfl, hka, h4⟩)
      clear H15
      obtain ⟨S1, hS1⟩ : ∃ S1, S1 = (movR subR T N S).2 := ⟨_, rfl⟩
      have hml := movR_len subR T N S
      have HS1 : Hid (S1.length = m ∧ S1.map Sl.nm = S.map Sl.nm) := by
        rcases hml with ⟨_, a1, a2⟩ | ⟨q, _⟩
        · rw [hS1]; exact ⟨a1.trans A3.out.1.m, a2⟩
        · exact absurd HB.out.1 q
      have HB2 : Hid (movR addR T N S1 = (0, S)) := by rw [hS1]; exact HB.out.2
      have hka2 : ka = m := by rw [← hka, ← hS1]; exact HS1.out.1
      have hb1 := HB.out.1
      rw [hb1]
      subst hka2
      have A4 : Hid (Arg w4 q r n c ka d T S ∧ Below w.heap.size w w4 ∧ NA w4 qn N ∧ Arg w4 q pa n c ka ca T S1) := by
        have h5 := h4.out.1
        rw [← hS1] at h5
        refine ⟨A3.out.1.below h4.out.2, below_from A3.out.2.1 h4.out.2 A3.out.2.1.size, A3.out.2.2.below h4.out.2, (A3.out.1.below h4.out.2).t, h5.ga slC_len, short_nm A3.out.1.h HS1.out.2, A3.out.1.c, fun e => by subst e; exact h5.nilc, A3.out.1.n, HS1.out.1⟩
      clear h4 A3 HB hka hml hb1 hS1
      have H17 : Hid (Calls Try.prog 17 #[.slice q n c, .slice qn kn cn, .slice pa ka ca] w4 (MovP addR w4 T N S1)) := before_any T N S1 q qn pa n c kn cn ka ca w4 A4.out.2.2.2 A4.out.2.2.1 HNS.out HKN.out (by omega) (by omega) (by omega)
      go_upto_region 8 with (go_at_call 17; refine H17.out.mono ?_; rintro e w5 ⟨pb, kb, cb, rfl, hkb, h5⟩)
      clear H17
      rw [HB2.out] at hkb h5 ⊢
      have hkb2 : kb = ka := hkb.symm.trans A4.out.1.m
      subst hkb2
      have A5 : Hid (Arg w5 q r n c kb d T S ∧ Below w.heap.size w w5 ∧ SA w5 pb S) := ⟨A4.out.1.below h5.out.2, below_from A4.out.2.1 h5.out.2 A4.out.2.1.size, h5.out.1.ga slC_len⟩
      clear h5 A4
      have H13a : Hid (Calls Try.prog 13 #[.slice pb kb cb] w5 fun e w' => ∃ p c', e = .returned (.slice p kb c') ∧ Hid (RR w5.heap.size w' (.slice p kb c') S ∧ Below w5.heap.size w5 w')) := plain_any w5 pb kb cb S A5.out.1.m (by omega) A5.out.2.2
      go_wp2_with (first
        | (go_at_call 13; refine H13a.out.mono ?_; rintro e w11 ⟨p5, c5, rfl, h11⟩; have B11 : Hid (Below w.heap.size w w11 ∧ SA w11 p5 S ∧ SA w11 r S) := ⟨below_from A5.out.2.1 h11.out.2 A5.out.2.1.size, rr_sa h11.out.1, A5.out.1.s.below h11.out.2⟩; clear H13a; have H13b : Hid (Calls Try.prog 13 #[.slice r kb d] w11 fun e w' => ∃ p c', e = .returned (.slice p kb c') ∧ Hid (RR w11.heap.size w' (.slice p kb c') S ∧ Below w11.heap.size w11 w')) := plain_any w11 r kb d S A5.out.1.m (by omega) B11.out.2.2)
        | (go_at_call 13; refine H13b.out.mono ?_; rintro e w12 ⟨p6, c6, rfl, h12⟩; have B12 : Hid (Below w.heap.size w w12 ∧ SA w12 p5 S ∧ SA w12 p6 S) := ⟨below_from B11.out.1 h12.out.2 B11.out.1.size, B11.out.2.1.below h12.out.2, rr_sa h12.out.1⟩; clear B11)
        | (go_at_call 18; refine (sames_any w12 kb c5 c6 p5 p6 S B12.out.2.1 B12.out.2.2 A5.out.1.m (by omega)).mono ?_; rintro e w13 ⟨rfl, h13⟩; have B13 : Hid (Below w.heap.size w w13) := below_from B12.out.1 h13.out B12.out.1.size; clear B12))
      go_ret
      exact ⟨rfl, B13.out⟩
    · have e1 : ¬ (((fitR T S).1 : Nat) : Int) = 0 := by omega
      have e2 : ((((fitR T S).1 : Nat) : Int) == 0) = false := by rw [beq_eq_false_iff_ne]; exact e1
      generalize (fitR T S).1 = fe at *
      go_wp2_with fail
      go_ret
      exact ⟨rfl, A3.out.2.1⟩
end Go.Proofs.Ytclhnclhocekkaa
