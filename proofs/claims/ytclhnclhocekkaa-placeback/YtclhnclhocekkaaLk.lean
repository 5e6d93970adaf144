/-
  PlaceKeeps' law.
-/
import Derived.Test.YtclhnclhocekkaaLm
namespace Go.Proofs.Ytclhnclhocekkaa
open Go.RowKit Go.Maps Go.WideMaps Go.Sort

theorem fitG_short (T : List V) (B : Nat) : ∀ (l : List Nat) (st st' : St), fitG T l st = some st' → (∀ s ∈ st.1, s.nm.length ≤ B) → (∀ s ∈ st.2, s.length ≤ B) → ∀ s ∈ st'.2, s.length ≤ B
  | [], st, st', h, _, h2 => by cases h; exact h2
  | t :: r, st, st', h, h1, h2 => by
    have h' : (stepF T t st).bind (fitG T r) = some st' := h
    obtain ⟨s1, e1, e2⟩ := Option.bind_eq_some_iff.1 h'
    unfold stepF at e1
    split at e1
    · cases e1
    · rename_i k hk
      obtain ⟨a, ha, _⟩ := hold_some hk
      have e : st.1.getD k default = a := by rw [List.getD_eq_getElem?_getD, ha]; rfl
      cases e1
      refine fitG_short T B r _ st' e2 (fun s hs => ?_) (fun s hs => ?_)
      · have : s.nm ∈ (setV st.1 k (tg T t)).map Sl.nm := List.mem_map_of_mem hs
        rw [setV_nm] at this
        obtain ⟨x, hx, ex⟩ := List.mem_map.1 this
        rw [← ex]
        exact h1 x hx
      · rcases List.mem_or_eq_of_mem_set hs with q | q
        · exact h2 s q
        · rw [q, e]; exact h1 a (List.mem_of_getElem? ha)
theorem fitR_short {T : List V} {S : List Sl} (h : Short S) : ∀ s ∈ (fitR T S).2, s.length ≤ 281474976710656 := by
  unfold fitR
  split
  · split
    · intro s hs; cases hs
    · rename_i st e
      exact fitG_short T _ _ _ _ e h (fun s hs => by
        have : s = [] := List.eq_of_mem_replicate hs
        rw [this]
        exact Nat.zero_le _)
  · intro s hs; cases hs
theorem eq41 (v : V) (w : World) : (Op.equalIn 10000 41 (.agg #[.int .i64 v.a, .int .i64 v.b, .int .i64 v.c, .int .i64 v.d]) (.agg #[.int .i64 v.a, .int .i64 v.b, .int .i64 v.c, .int .i64 v.d])).run Try.prog w = .ok true w := by
  rw [eq4]
  simp
set_option maxHeartbeats 8000000 in
set_option maxRecDepth 100000 in
theorem keeps_law (q r : Option Addr) (n c m d : Nat) (T : List V) (S : List Sl) (w : World) (hA : Arg w q r n c m d T S) :
    Calls Try.prog 8 #[.slice q n c, .slice r m d] w fun e w' => e = .returned (.bool true) ∧ Below w.heap.size w w' := by
  have H9 : Hid (∀ w, Calls Try.prog 9 #[] w fun e w' => e = .returned (.bool true) ∧ Hid (Below w.heap.size w w')) := fun w => awake_any w
  have H10 : Hid (∀ w, Calls Try.prog 10 #[.slice q n c, .slice r m d] w fun e w' => e = .returned (.bool (fewB n m)) ∧ Hid (Below w.heap.size w w')) := fun w => few_any q r n c m d w
  have HA : Hid (Arg w q r n c m d T S) := hA
  clear hA
  cases hf : fewB n m with
  | false =>
    rw [hf] at H10
    go_enter Try.func8, Try.ntmps8
    go_upto_region 2 with (first | (go_at_call 9; refine (H9.out _).mono ?_; rintro e w1 ⟨rfl, b1⟩) | (go_at_call 10; refine (H10.out _).mono ?_; rintro e w2 ⟨rfl, b2⟩))
    go_wp2_with (go_at_call 9; refine (H9.out _).mono ?_; rintro e w3 ⟨rfl, b3⟩)
    go_ret
    exact ⟨rfl, below_from (below_from b1.out b2.out b1.out.size) b3.out (by have := b1.out.size; have := b2.out.size; omega)⟩
  | true =>
    obtain ⟨n1, m1⟩ := few_le hf
    rw [hf] at H10
    clear hf
    go_enter Try.func8, Try.ntmps8
    go_upto_region 3 with (first | (go_at_call 9; refine (H9.out _).mono ?_; rintro e w1 ⟨rfl, b1⟩) | (go_at_call 10; refine (H10.out _).mono ?_; rintro e w2 ⟨rfl, b2⟩))
    have A2 : Hid (Arg w2 q r n c m d T S ∧ Below w.heap.size w w2) := ⟨(HA.out.below b1.out).below b2.out, below_from b1.out b2.out b1.out.size⟩
    clear b1 b2 H9 H10 HA
    have e9 : Hid (0 + n ≤ maxLen) := by show _ ≤ _; unfold maxLen; omega
    have e8 : Hid ((0 + n) * 32 ≤ 140737488355328) := by show _ ≤ _; omega
    go_upto_region 5 with (at_builtin; refine append_ga (B := w2.heap.size) vC_len vC_one Try.underlying22 info41 rfl (by decide) rfl _ _ rfl none 0 0 [] rfl (GRow.nil _ _ _ _ _) (Nat.le_refl _) q n c T rfl A2.out.1.n A2.out.1.t A2.out.1.c e9.out e8.out ?_; intro pt ct w3 hr3 hb3)
    rw [Nat.zero_add] at hr3
    have A3 : Hid (Arg w3 q r n c m d T S ∧ Below w.heap.size w w3 ∧ TA w3 pt T ∧ (pt = none → ct = 0)) := ⟨A2.out.1.below hb3, below_from A2.out.2 hb3 A2.out.2.size, hr3.ga vC_len, fun e => by subst e; exact hr3.nilc⟩
    clear hr3 hb3 A2 e9 e8
    have e9 : Hid (0 + m ≤ maxLen) := by show _ ≤ _; unfold maxLen; omega
    have e8 : Hid ((0 + m) * 48 ≤ 140737488355328) := by show _ ≤ _; omega
    go_upto_region 7 with (at_builtin; refine append_ga (B := w3.heap.size) slC_len slC_one Try.underlying23 info43 rfl (by decide) rfl _ _ rfl none 0 0 [] rfl (GRow.nil _ _ _ _ _) (Nat.le_refl _) r m d S rfl A3.out.1.m A3.out.1.s A3.out.1.d e9.out e8.out ?_; intro ps cs w4 hr4 hb4)
    rw [Nat.zero_add] at hr4
    have A4 : Hid (Arg w4 q r n c m d T S ∧ Below w.heap.size w w4 ∧ Arg w4 pt ps n ct m cs T S) := ⟨A3.out.1.below hb4, below_from A3.out.2.1 hb4 A3.out.2.1.size, A3.out.2.2.1.below hb4, hr4.ga slC_len, A3.out.1.h, A3.out.2.2.2, (fun e => by subst e; exact hr4.nilc), A3.out.1.n, A3.out.1.m⟩
    clear hr4 hb4 A3 e9 e8
    have H11 : Hid (Calls Try.prog 11 #[.slice pt n ct, .slice ps m cs] w4 (FitP w4 T S)) := fit_any T S pt ps n ct m cs w4 A4.out.2.2.t A4.out.2.2.s A4.out.2.2.h A4.out.2.2.d A4.out.2.2.n A4.out.2.2.m (by omega) (by omega)
    go_upto_region 8 with (go_at_call 11; refine H11.out.mono ?_; rintro e w5 ⟨qn, kn, cn, rfl, hkn, hqn, h5⟩)
    have A5 : Hid (Arg w5 q r n c m d T S ∧ Below w.heap.size w w5 ∧ Arg w5 pt ps n ct m cs T S ∧ NA w5 qn (fitR T S).2) := ⟨A4.out.1.below h5.out.2, below_from A4.out.2.1 h5.out.2 A4.out.2.1.size, A4.out.2.2.below h5.out.2, h5.out.1⟩
    have HKN : Hid ((fitR T S).2.length = kn ∧ (qn = none → cn = 0)) := ⟨hkn, hqn⟩
    have kn1 : kn ≤ 100 := by have := fitR_le T S; have := A5.out.1.n; omega
    have HNS : Hid (∀ s ∈ (fitR T S).2, s.length ≤ 281474976710656) := fitR_short A4.out.1.h
    clear h5 A4 H11 hkn hqn
    generalize (fitR T S).2 = N at *
    generalize (fitR T S).1 = fe at *
    have e9 : Hid (0 + kn ≤ maxLen) := by show _ ≤ _; unfold maxLen; omega
    have e8 : Hid ((0 + kn) * 16 ≤ 140737488355328) := by show _ ≤ _; omega
    go_upto_region 10 with (at_builtin; refine append_ga (B := w5.heap.size) sC_len sC_one Try.underlying26 info9 rfl (by decide) rfl _ _ rfl none 0 0 [] rfl (GRow.nil _ _ _ _ _) (Nat.le_refl _) qn kn cn N rfl HKN.out.1 A5.out.2.2.2 HKN.out.2 e9.out e8.out ?_; intro pn cm w6 hr6 hb6)
    rw [Nat.zero_add] at hr6
    have A6 : Hid (Arg w6 q r n c m d T S ∧ Below w.heap.size w w6 ∧ Arg w6 pt ps n ct m cs T S ∧ NA w6 qn N ∧ NA w6 pn N) := ⟨A5.out.1.below hb6, below_from A5.out.2.1 hb6 A5.out.2.1.size, A5.out.2.2.1.below hb6, A5.out.2.2.2.below hb6, hr6.ga sC_len⟩
    clear hr6 hb6 A5 e9 e8
    have H15 : Hid (Calls Try.prog 15 #[.slice pt n ct, .slice pn kn cm, .slice ps m cs] w6 (MovP subR w6 T N S)) := after_any T N S pt pn ps n ct kn cm m cs w6 A6.out.2.2.1 A6.out.2.2.2.2 HNS.out HKN.out.1 (by omega) (by omega) (by omega)
    go_upto_region 11 with (go_at_call 15; refine H15.out.mono ?_; rintro e w7 ⟨pa, ka, ca, rfl, hka, h7⟩)
    have ka1 : ka ≤ 100 := by have := movR_le subR T N S; have := A6.out.1.m; omega
    have A7 : Hid (Below w6.heap.size w6 w7 ∧ ∃ L, SR w6.heap.size w7 (.slice pa ka ca) L) := ⟨h7.out.2, _, h7.out.1⟩
    clear H15 h7 hka
    generalize (movR subR T N S).1 = me at *
    go_wp2_with fail
    go_loopw [12] (fun x wr => ∃ k : Nat, x = .int .i64 k ∧ k ≤ ka ∧ Hid (Below w6.heap.size w6 wr ∧ ∃ L, SR w6.heap.size wr (.slice pa ka ca) L)) (fun x _ => ka - (intOf x).toNat)
    case atStart => exact ⟨0, rfl, Nat.zero_le _, A7.out⟩
    case round =>
      clear A7
      obtain ⟨k, rfl, hk, HI⟩ := hrel
      by_cases h0 : k < ka
      · have hlt' : (k : Int) < (ka : Int) := by omega
        have hd : decide ((k : Int) < (ka : Int)) = true := decide_eq_true hlt'
        obtain ⟨L, hL⟩ := HI.out.2
        have hll := hL.len
        obtain ⟨s, hs⟩ : ∃ s, L[k]? = some s := ⟨_, List.getElem?_eq_getElem (by omega)⟩
        obtain ⟨gl, rfl, -⟩ := hL.at slC_len hs
        obtain ⟨⟨y0, -⟩, fz0⟩ := grow_at hL hs
        have f0 := fz0 (k * 5)
        have lt0 : gl < wr.heap.size := hL.lt rfl
        have HN : Hid (Below w6.heap.size w6 (wr.setCell ⟨gl, k * 5, none⟩ (.string ⟨#[116, 117, 114, 110, 101, 100]⟩)) ∧ ∃ L, SR w6.heap.size (wr.setCell ⟨gl, k * 5, none⟩ (.string ⟨#[116, 117, 114, 110, 101, 100]⟩)) (.slice (some ⟨gl, 0, none⟩) ka ca) L) := ⟨HI.out.1.setCell (hL.ge (g := gl) rfl) _, _, grow_name [116, 117, 114, 110, 101, 100] hL hs⟩
        clear fz0 hs hL hll HI
        go_wp2_with fail
        exact ⟨⟨k + 1, by simp, by omega, HN.out⟩, by simp only [intOf]; omega⟩
      · have hlt' : ¬ (k : Int) < (ka : Int) := by omega
        have hd : decide ((k : Int) < (ka : Int)) = false := decide_eq_false hlt'
        have A8 : Hid (Arg wr q r n c m d T S ∧ Below w.heap.size w wr ∧ Arg wr pt ps n ct m cs T S ∧ NA wr qn N ∧ NA wr pn N) := ⟨A6.out.1.below HI.out.1, below_from A6.out.2.1 HI.out.1 A6.out.2.1.size, A6.out.2.2.1.below HI.out.1, A6.out.2.2.2.1.below HI.out.1, A6.out.2.2.2.2.below HI.out.1⟩
        clear A6 HI
        have H17 : Hid (Calls Try.prog 17 #[.slice pt n ct, .slice pn kn cm, .slice ps m cs] wr (MovP addR wr T N S)) := before_any T N S pt pn ps n ct kn cm m cs wr A8.out.2.2.1 A8.out.2.2.2.2 HNS.out HKN.out.1 (by omega) (by omega) (by omega)
        go_wp2_with (go_at_call 17; refine H17.out.mono ?_; rintro e w9 ⟨pb, kb, cb, rfl, hkb, h9⟩)
        have A9 : Hid (Arg w9 q r n c m d T S ∧ Below w.heap.size w w9 ∧ Arg w9 pt ps n ct m cs T S ∧ NA w9 qn N ∧ NA w9 pn N) := ⟨A8.out.1.below h9.out.2, below_from A8.out.2.1 h9.out.2 A8.out.2.1.size, A8.out.2.2.1.below h9.out.2, A8.out.2.2.2.1.below h9.out.2, A8.out.2.2.2.2.below h9.out.2⟩
        clear H17 h9 A8 hkb hlt' hd h0 hk
        go_loopw [13] (fun x wr => ∃ k : Nat, x = .int .i64 k ∧ k ≤ n ∧ Hid (Below w9.heap.size w9 wr)) (fun x _ => n - (intOf x).toNat)
        case atStart => exact ⟨0, rfl, Nat.zero_le _, Below.refl _ _⟩
        case round =>
          obtain ⟨k, rfl, hk, HB⟩ := hrel
          by_cases h0 : k < n
          · have hlt' : (k : Int) < (n : Int) := by omega
            have hd : decide ((k : Int) < (n : Int)) = true := decide_eq_true hlt'
            obtain ⟨v, hv⟩ : ∃ v, T[k]? = some v := ⟨_, List.getElem?_eq_getElem (by have := A9.out.1.n; omega)⟩
            obtain ⟨g1, o1, rfl, a0, a1, a2, a3⟩ := TA.at (A9.out.1.t.below HB.out) hv
            obtain ⟨g2, o2, rfl, b0, b1, b2, b3⟩ := TA.at (A9.out.2.2.1.t.below HB.out) hv
            have HD : Hid (∀ i, Below w9.heap.size w9 (wr.drewN i)) := fun i => below_drewN HB.out i
            have q41 := eq41 v
            clear hv
            go_wp2_with fail
            go_region
            all_goals go_wp2_with fail
            all_goals exact ⟨⟨k + 1, by simp, by omega, HD.out _⟩, by simp only [intOf]; omega⟩
          · have hlt' : ¬ (k : Int) < (n : Int) := by omega
            have hd : decide ((k : Int) < (n : Int)) = false := decide_eq_false hlt'
            have A10 : Hid (Arg wr q r n c m d T S ∧ Below w.heap.size w wr ∧ Arg wr pt ps n ct m cs T S ∧ NA wr qn N ∧ NA wr pn N) := ⟨A9.out.1.below HB.out, below_from A9.out.2.1 HB.out A9.out.2.1.size, A9.out.2.2.1.below HB.out, A9.out.2.2.2.1.below HB.out, A9.out.2.2.2.2.below HB.out⟩
            clear A9 HB
            have H13a : Hid (Calls Try.prog 13 #[.slice ps m cs] wr fun e w' => ∃ p c', e = .returned (.slice p m c') ∧ Hid (RR wr.heap.size w' (.slice p m c') S ∧ Below wr.heap.size wr w')) := plain_any wr ps m cs S A10.out.1.m (by omega) A10.out.2.2.1.s
            go_wp2_with (first
              | (go_at_call 13; refine H13a.out.mono ?_; rintro e w11 ⟨p5, c5, rfl, h11⟩; have B11 : Hid (Below w.heap.size w w11 ∧ SA w11 p5 S ∧ SA w11 r S ∧ NA w11 qn N ∧ NA w11 pn N) := ⟨below_from A10.out.2.1 h11.out.2 A10.out.2.1.size, rr_sa h11.out.1, A10.out.1.s.below h11.out.2, A10.out.2.2.2.1.below h11.out.2, A10.out.2.2.2.2.below h11.out.2⟩; clear H13a; have H13b : Hid (Calls Try.prog 13 #[.slice r m d] w11 fun e w' => ∃ p c', e = .returned (.slice p m c') ∧ Hid (RR w11.heap.size w' (.slice p m c') S ∧ Below w11.heap.size w11 w')) := plain_any w11 r m d S A10.out.1.m (by omega) B11.out.2.2.1)
              | (go_at_call 13; refine H13b.out.mono ?_; rintro e w12 ⟨p6, c6, rfl, h12⟩; have B12 : Hid (Below w.heap.size w w12 ∧ SA w12 p5 S ∧ SA w12 p6 S ∧ NA w12 qn N ∧ NA w12 pn N) := ⟨below_from B11.out.1 h12.out.2 B11.out.1.size, B11.out.2.1.below h12.out.2, rr_sa h12.out.1, B11.out.2.2.2.1.below h12.out.2, B11.out.2.2.2.2.below h12.out.2⟩; clear B11)
              | (go_at_call 18; refine (sames_any w12 m c5 c6 p5 p6 S B12.out.2.1 B12.out.2.2.1 A10.out.1.m (by omega)).mono ?_; rintro e w13 ⟨rfl, h13⟩; have B13 : Hid (Below w.heap.size w w13 ∧ NA w13 qn N ∧ NA w13 pn N) := ⟨below_from B12.out.1 h13.out B12.out.1.size, B12.out.2.2.2.1.below h13.out, B12.out.2.2.2.2.below h13.out⟩; clear B12)
              | (go_at_call 14; refine (same_any w13 kn cm cn pn qn N B13.out.2.2 B13.out.2.1 HKN.out.1 (by omega)).mono ?_; rintro e w14 ⟨rfl, h14⟩; have B14 : Hid (Below w.heap.size w w14) := below_from B13.out.1 h14.out B13.out.1.size; clear B13))
            go_ret
            exact ⟨rfl, B14.out⟩
end Go.Proofs.Ytclhnclhocekkaa
