/-
  PlaceOne's law.
-/
import Derived.Test.YtclhnclhocekkaaLa
namespace Go.Proofs.Ytclhnclhocekkaa
open Go.RowKit Go.Maps Go.WideMaps Go.Sort

theorem ord_one (v : V) : ordT [v] = [0] := rfl
theorem fit_one_some {v : V} {S : List Sl} {k : Nat} {s : Sl} (hc : chk [v] S = 0) (hh : hold v S = some k) (hs : S[k]? = some s) : fitR [v] S = (0, [s.nm]) := by
  unfold fitR
  rw [if_pos hc, ord_one]
  have e : fitG [v] [0] (fit0 [v] S) = some (setV S k v, [s.nm]) := by
    show (stepF [v] 0 (S, [[]])).bind (fitG [v] []) = _
    unfold stepF
    rw [show hold (tg [v] 0) (S, [([] : List UInt8)]).1 = some k from hh]
    show some (setV S k v, [(S.getD k default).nm]) = _
    rw [List.getD_eq_getElem?_getD, hs]
    rfl
  rw [e]
theorem fit_one_none {v : V} {S : List Sl} (hc : chk [v] S = 0) (hh : hold v S = none) : fitR [v] S = (6, []) := by
  unfold fitR
  rw [if_pos hc, ord_one]
  have e : fitG [v] [0] (fit0 [v] S) = none := by
    show (stepF [v] 0 (S, [[]])).bind (fitG [v] []) = _
    unfold stepF
    rw [show hold (tg [v] 0) (S, [([] : List UInt8)]).1 = none from hh]
    rfl
  rw [e]
theorem chk_one (v : V) (S : List Sl) : chk [v] S = 0 ∨ chk [v] S = 4 ∨ chk [v] S = 5 := by
  unfold chk
  split
  · exact .inr (.inl rfl)
  · split
    · exact .inr (.inr rfl)
    · exact .inl (by rw [if_neg (by simp)])
theorem hold_more {v : V} {S M : List Sl} {k : Nat} (h : hold v S = some k) : hold v (S ++ M) = some k := by
  unfold hold at *
  rw [List.findIdx?_append, h]
  rfl
/-- the first of those from j on -/
def Bs (v : V) (S : List Sl) (j : Nat) (b : Int) : Prop := (b = -1 ∧ ∀ i s, j ≤ i → S[i]? = some s → ftV v s.v = false) ∨ ∃ k : Nat, b = k ∧ j ≤ k ∧ (∃ s, S[k]? = some s ∧ ftV v s.v = true) ∧ ∀ i s, j ≤ i → i < k → S[i]? = some s → ftV v s.v = false
theorem bs_hold {v : V} {S : List Sl} {b : Int} (h : Bs v S 0 b) : (b = -1 ∧ hold v S = none) ∨ ∃ k : Nat, b = k ∧ hold v S = some k := by
  rcases h with ⟨e, h⟩ | ⟨k, e, _, ⟨s, hs, hf⟩, h⟩
  · exact .inl ⟨e, hold_none fun i s hs => h i s (Nat.zero_le _) hs⟩
  · exact .inr ⟨k, e, hold_at hs (fun i x hi hx => h i x (Nat.zero_le _) hi hx) hf⟩
theorem few_zero {m : Nat} : fewB 0 m = decide (m ≤ 100) := by unfold fewB; simp
def lk (k : Nat) (S : List Sl) : List UInt8 := (S.getD k default).nm
set_option maxHeartbeats 8000000 in
set_option maxRecDepth 100000 in
theorem one_law (v : V) (q r : Option Addr) (n c m d : Nat) (S M : List Sl) (w : World) (hS : SA w q S) (hs : Short S) (hq : q = none → c = 0) (hM : SA w r M) (hms : Short M) (hr : r = none → d = 0) (hn : S.length = n) (hm : M.length = m) :
    Calls Try.prog 7 #[.agg #[.int .i64 v.a, .int .i64 v.b, .int .i64 v.c, .int .i64 v.d], .slice q n c, .slice r m d] w fun e w' => e = .returned (.bool true) ∧ Below w.heap.size w w' := by
  have H9 : Hid (∀ w, Calls Try.prog 9 #[] w fun e w' => e = .returned (.bool true) ∧ Hid (Below w.heap.size w w')) := fun w => awake_any w
  have H10 : Hid (∀ w, Calls Try.prog 10 #[.slice none 0 0, .slice q n c] w fun e w' => e = .returned (.bool (decide (n ≤ 100))) ∧ Hid (Below w.heap.size w w')) := fun w => by have := few_any none q 0 0 n c w; rwa [few_zero] at this
  have H10' : Hid (∀ w, Calls Try.prog 10 #[.slice none 0 0, .slice r m d] w fun e w' => e = .returned (.bool (decide (m ≤ 100))) ∧ Hid (Below w.heap.size w w')) := fun w => by have := few_any none r 0 0 m d w; rwa [few_zero] at this
  have HA : Hid ((SA w q S ∧ Short S ∧ (q = none → c = 0) ∧ S.length = n) ∧ SA w r M ∧ Short M ∧ (r = none → d = 0) ∧ M.length = m) := ⟨⟨hS, hs, hq, hn⟩, hM, hms, hr, hm⟩
  clear hS hs hq hM hms hr hn hm
  have B0 : Hid (Below w.heap.size w (w.alloc (.cells #[.int .i64 v.a, .int .i64 v.b, .int .i64 v.c, .int .i64 v.d] 41))) := (Below.refl _ w).alloc (Nat.le_refl _) _
  have N0 : Hid ((w.alloc (.cells #[.int .i64 v.a, .int .i64 v.b, .int .i64 v.c, .int .i64 v.d] 41)).heap[w.heap.size]? = some (.cells #[.int .i64 v.a, .int .i64 v.b, .int .i64 v.c, .int .i64 v.d] 41)) := new0
  by_cases hf : n ≤ 100 ∧ m ≤ 100
  · obtain ⟨n1, m1⟩ := hf
    rw [decide_eq_true n1] at H10
    rw [decide_eq_true m1] at H10'
    go_enter Try.func7, Try.ntmps7
    go_upto_region 1 with fail
    obtain ⟨bx, hbx⟩ : ∃ bx, bx = w.heap.size := ⟨_, rfl⟩
    rw [← hbx] at N0 ⊢
    have HBX : Hid (bx = w.heap.size) := hbx
    clear hbx
    generalize w.alloc (.cells #[.int .i64 v.a, .int .i64 v.b, .int .i64 v.c, .int .i64 v.d] 41) = W0 at *
    go_upto_region 3 with (first | (go_at_call 9; refine (H9.out _).mono ?_; rintro e w1 ⟨rfl, b1⟩) | (go_at_call 10; refine (H10.out _).mono ?_; rintro e w2 ⟨rfl, b2⟩; clear H10) | (go_at_call 10; refine (H10'.out _).mono ?_; rintro e w3 ⟨rfl, b3⟩))
    have B3 : Hid (Below w.heap.size w w3 ∧ w3.heap[bx]? = some (.cells #[.int .i64 v.a, .int .i64 v.b, .int .i64 v.c, .int .i64 v.d] 41)) := ⟨below_from (below_from (below_from B0.out b1.out B0.out.size) b2.out (by have := B0.out.size; have := b1.out.size; omega)) b3.out (by have := B0.out.size; have := b1.out.size; have := b2.out.size; omega), at_below b3.out (Nat.le_refl _) (at_below b2.out (Nat.le_refl _) (at_below b1.out (Nat.le_refl _) N0.out))⟩
    clear b1 b2 b3 B0 N0 H9 H10'
    obtain ⟨z0, z1, z2, z3, -⟩ := cells4 B3.out.2
    go_upto_region 4 with fail
    have b4 : Below w3.heap.size w3 (w3.alloc (.cells #[.int .i64 v.a, .int .i64 v.b, .int .i64 v.c, .int .i64 v.d] 41)) := (Below.refl _ w3).alloc (Nat.le_refl _) _
    have N4 := new0 (w := w3) (o := .cells #[.int .i64 v.a, .int .i64 v.b, .int .i64 v.c, .int .i64 v.d] 41)
    have B4 : Hid (Below w.heap.size w (w3.alloc (.cells #[.int .i64 v.a, .int .i64 v.b, .int .i64 v.c, .int .i64 v.d] 41)) ∧ (w3.alloc (.cells #[.int .i64 v.a, .int .i64 v.b, .int .i64 v.c, .int .i64 v.d] 41)).heap[bx]? = some (.cells #[.int .i64 v.a, .int .i64 v.b, .int .i64 v.c, .int .i64 v.d] 41) ∧ TA (w3.alloc (.cells #[.int .i64 v.a, .int .i64 v.b, .int .i64 v.c, .int .i64 v.d] 41)) (some ⟨w3.heap.size, 0, none⟩) [v]) := ⟨below_from B3.out.1 b4 B3.out.1.size, at_below b4 (Nat.le_refl _) B3.out.2, fun i x hx => by
      match i, hx with
      | 0, hx =>
        cases hx
        refine ⟨_, 0, rfl, fun j u hu => ?_⟩
        match j, hu with
        | 0, hu => cases hu; exact Lib.cell_of_heap N4 0
        | 1, hu => cases hu; exact Lib.cell_of_heap N4 1
        | 2, hu => cases hu; exact Lib.cell_of_heap N4 2
        | 3, hu => cases hu; exact Lib.cell_of_heap N4 3⟩
    obtain ⟨bt, hbt⟩ : ∃ bt, bt = w3.heap.size := ⟨_, rfl⟩
    rw [← hbt] at B4 ⊢
    clear hbt b4 N4 z0 z1 z2 z3 B3
    generalize w3.alloc (.cells #[.int .i64 v.a, .int .i64 v.b, .int .i64 v.c, .int .i64 v.d] 41) = w4 at *
    have H11 : Hid (Calls Try.prog 11 #[.slice (some ⟨bt, 0, none⟩) 1 1, .slice q n c] w4 (FitP w4 [v] S)) := fit_any [v] S (some ⟨bt, 0, none⟩) q 1 1 n c w4 B4.out.2.2 (HA.out.1.1.below B4.out.1) HA.out.1.2.1 HA.out.1.2.2.1 rfl HA.out.1.2.2.2 (by omega) (by omega)
    go_upto_region 5 with (go_at_call 11; refine H11.out.mono ?_; rintro e w5 ⟨qn, kn, cn, rfl, hkn, -, h5⟩)
    have B5 : Hid (Below w.heap.size w w5 ∧ w5.heap[bx]? = some (.cells #[.int .i64 v.a, .int .i64 v.b, .int .i64 v.c, .int .i64 v.d] 41) ∧ TA w5 (some ⟨bt, 0, none⟩) [v] ∧ NA w5 qn (fitR [v] S).2) := ⟨below_from B4.out.1 h5.out.2 B4.out.1.size, at_below h5.out.2 (Nat.le_refl _) B4.out.2.1, B4.out.2.2.below h5.out.2, h5.out.1⟩
    clear H11 h5 B4
    have HV : Hid (∀ W : World, W.heap[bx]? = some (.cells #[.int .i64 v.a, .int .i64 v.b, .int .i64 v.c, .int .i64 v.d] 41) → W.cell? ⟨bx, 0, none⟩ = some (.int .i64 v.a) ∧ W.cell? ⟨bx, 1, none⟩ = some (.int .i64 v.b) ∧ W.cell? ⟨bx, 2, none⟩ = some (.int .i64 v.c) ∧ W.cell? ⟨bx, 3, none⟩ = some (.int .i64 v.d)) := fun W h => ⟨Lib.cell_of_heap h 0, Lib.cell_of_heap h 1, Lib.cell_of_heap h 2, Lib.cell_of_heap h 3⟩
    rcases chk_one v S with hc | hc | hc
    · cases hh : hold v S with
      | some k =>
        obtain ⟨s, hs, _⟩ := hold_some hh
        have hfo := fit_one_some hc hh hs
        have HH : Hid (hold v S = some k ∧ S[k]? = some s) := ⟨hh, hs⟩
        rw [hfo] at hkn B5 ⊢
        obtain rfl : 1 = kn := hkn
        clear hfo hs hh hc
        go_upto_region 8 with fail
        have hw1 : IntKind.i64.wrap ((n : Int) - 1) = (n : Int) - 1 := by simp [IntKind.wrap, IntKind.bits, IntKind.signed]; omega
        go_wp2_with fail
        clear hw1
        go_loopw [10, 11] (fun y x wr => ∃ (j : Nat) (b : Int), y = .int .i64 b ∧ x = .int .i64 ((j : Int) - 1) ∧ j ≤ n ∧ Hid (Bs v S j b ∧ Below w5.heap.size w5 wr)) (fun _ x _ => (intOf x + 1).toNat)
        case atStart => exact ⟨n, -1, rfl, rfl, Nat.le_refl _, .inl ⟨rfl, fun i s hi hs => by have := (List.getElem?_eq_some_iff.1 hs).1; have := HA.out.1.2.2.2; omega⟩, Below.refl _ _⟩
        case round =>
          obtain ⟨j, b, rfl, rfl, hj, HI⟩ := hrel
          have HW : Hid (Below w.heap.size w wr ∧ wr.heap[bx]? = some (.cells #[.int .i64 v.a, .int .i64 v.b, .int .i64 v.c, .int .i64 v.d] 41) ∧ TA wr (some ⟨bt, 0, none⟩) [v] ∧ NA wr qn [s.nm]) := ⟨below_from B5.out.1 HI.out.2 B5.out.1.size, at_below HI.out.2 (Nat.le_refl _) B5.out.2.1, B5.out.2.2.1.below HI.out.2, B5.out.2.2.2.below HI.out.2⟩
          cases j with
          | succ t =>
            have hx : ((t + 1 : Nat) : Int) - 1 = (t : Int) := by omega
            rw [hx]
            clear hx
            have t0 : (0 : Int) ≤ (t : Int) := by omega
            have t1 : (t : Int) < (n : Int) := by omega
            have tw : IntKind.i64.wrap ((t : Int) - 1) = (t : Int) - 1 := by simp [IntKind.wrap, IntKind.bits, IntKind.signed]; omega
            obtain ⟨s1, hs1⟩ : ∃ s1, S[t]? = some s1 := ⟨_, List.getElem?_eq_getElem (by have := HA.out.1.2.2.2; omega)⟩
            obtain ⟨g, o, rfl, -, c1, c2, c3, c4⟩ := SA.at (HA.out.1.1.below HW.out.1) hs1
            have c2 : wr.cell? ⟨g, o + t * 5 + 1 + 1, none⟩ = some (.int .i64 s1.v.b) := c2
            have c3 : wr.cell? ⟨g, o + t * 5 + 1 + 2, none⟩ = some (.int .i64 s1.v.c) := c3
            have c4 : wr.cell? ⟨g, o + t * 5 + 1 + 3, none⟩ = some (.int .i64 s1.v.d) := c4
            obtain ⟨x0, x1, x2, x3⟩ := HV.out wr HW.out.2.1
            have H20 : Hid (∀ w, Calls Try.prog 20 #[.agg #[.int .i64 v.a, .int .i64 v.b, .int .i64 v.c, .int .i64 v.d], .agg #[.int .i64 s1.v.a, .int .i64 s1.v.b, .int .i64 s1.v.c, .int .i64 s1.v.d]] w fun r w' => r = .returned (.bool (ftV v s1.v)) ∧ Below w.heap.size w w') := fun w => rfits_any _ _ _ _ _ _ _ _ w
            obtain ⟨fb, hfb⟩ : ∃ fb, fb = ftV v s1.v := ⟨_, rfl⟩
            rw [← hfb] at H20
            have HN : Hid (Bs v S t (if fb then (t : Int) else b)) := by
              cases fb with
              | true => exact .inr ⟨t, rfl, Nat.le_refl _, ⟨s1, hs1, hfb.symm⟩, fun i s h1 h2 => absurd h1 (by omega)⟩
              | false =>
                rcases HI.out.1 with ⟨e, h⟩ | ⟨k, e, h1, h2, h3⟩
                · refine .inl ⟨e, fun i s hi hs => ?_⟩
                  by_cases q : i = t
                  · subst q; rw [hs1] at hs; cases hs; exact hfb.symm
                  · exact h i s (by omega) hs
                · refine .inr ⟨k, e, by omega, h2, fun i s hi hk hs => ?_⟩
                  by_cases q : i = t
                  · subst q; rw [hs1] at hs; cases hs; exact hfb.symm
                  · exact h3 i s (by omega) hk hs
            have HI2 : Hid (Below w5.heap.size w5 wr) := HI.out.2
            clear hs1 hfb HI HW
            generalize hv1 : v.a = va at *
            generalize hv2 : v.b = vb at *
            generalize hv3 : v.c = vc at *
            generalize hv4 : v.d = vd at *
            obtain ⟨sn, ⟨sa, sb, sc, sd⟩⟩ := s1
            simp only [] at c1 c2 c3 c4 H20
            go_upto_region 11 with fail
            have G20 := grown (W := wr) H20
            have m0 := cell_regrown x0
            have m1 := cell_regrown x1
            have m2 := cell_regrown x2
            have m3 := cell_regrown x3
            have p1 := cell_regrown c1
            have p2 := cell_regrown c2
            have p3 := cell_regrown c3
            have p4 := cell_regrown c4
            refine wp_region_quiet_below (by kernel_rfl) (by kernel_rfl) ?_
            repeat (first | go_big_quiet_step ((go_at_call 20; exact G20.out _ _)) | quiet_step ((go_at_call 20; exact G20.out _ _)))
            refine wpQuiet_nil ?_
            intro _ hw'
            obtain ⟨⟨dq, osq⟩, hw''⟩ := hw'
            subst hw''
            have BN : Hid (Below w5.heap.size w5 (grow (redrawn wr dq) osq)) := below_from HI2.out (below_regrown wr dq osq) HI2.out.size
            clear m0 m1 m2 m3 p1 p2 p3 p4 x0 x1 x2 x3 c1 c2 c3 c4 G20 H20 HI2 hv1 hv2 hv3 hv4
            generalize grow (redrawn wr dq) osq = W7 at *
            cases fb with
            | true =>
              go_wp2_with fail
              exact ⟨⟨t, t, by simp, by simp, by omega, HN.out, BN.out⟩, by simp only [intOf]; omega⟩
            | false =>
              go_wp2_with fail
              exact ⟨⟨t, b, by simp, by simp, by omega, HN.out, BN.out⟩, by simp only [intOf]; omega⟩
          | zero =>
            have hx : ((0 : Nat) : Int) - 1 = -1 := by omega
            rw [hx]
            clear hx hj
            have HB : Hid (Bs v S 0 b) := HI.out.1
            clear HI
            obtain rfl : b = (k : Int) := by
              rcases bs_hold HB.out with ⟨_, h⟩ | ⟨k2, e, h⟩
              · rw [HH.out.1] at h; cases h
              · rw [HH.out.1] at h; cases h; exact e
            have hkn' : k < n := by have := (List.getElem?_eq_some_iff.1 HH.out.2).1; have := HA.out.1.2.2.2; omega
            have k0 : (0 : Int) ≤ (k : Int) := by omega
            have k0' : decide ((0 : Int) ≤ (k : Int)) = true := decide_eq_true k0
            have k1 : (k : Int) < (n : Int) := by omega
            obtain ⟨gn, on, rfl, xn⟩ := NA.at HW.out.2.2.2 (i := 0) rfl
            rw [Nat.add_zero] at xn
            obtain ⟨g, o, rfl, xs, -⟩ := SA.at (HA.out.1.1.below HW.out.1) HH.out.2
            clear HB
            go_upto_region 13 with fail
            go_quiet (fail)
            clear xn xs
            have HW7 : Hid (Below w.heap.size w (wr.drewN nq) ∧ TA (wr.drewN nq) (some ⟨bt, 0, none⟩) [v] ∧ NA (wr.drewN nq) (some ⟨gn, on, none⟩) [s.nm]) := ⟨below_drewN HW.out.1 nq, HW.out.2.2.1.below (below_drewN (Below.refl _ _) nq), HW.out.2.2.2.below (below_drewN (Below.refl _ _) nq)⟩
            clear HW
            generalize wr.drewN nq = W7 at *
            have e9 : Hid (0 + n ≤ maxLen) := by show _ ≤ _; unfold maxLen; omega
            have e8 : Hid ((0 + n) * 48 ≤ 140737488355328) := by show _ ≤ _; omega
            have HS7 : Hid (SA W7 (some ⟨g, o, none⟩) S ∧ S.length = n ∧ (((some ⟨g, o, none⟩) : Option Addr) = none → c = 0)) := ⟨HA.out.1.1.below HW7.out.1, HA.out.1.2.2.2, HA.out.1.2.2.1⟩
            go_upto_region 17 with (at_builtin; refine append_ga (B := W7.heap.size) slC_len slC_one Try.underlying23 info43 rfl (by decide) rfl _ _ rfl none 0 0 [] rfl (GRow.nil _ _ _ _ _) (Nat.le_refl _) (some ⟨g, o, none⟩) n c S rfl HS7.out.2.1 HS7.out.1 HS7.out.2.2 e9.out e8.out ?_; intro p8 c8 w8 hr8 hb8)
            rw [Nat.zero_add] at hr8
            have HR8 : Hid (SR W7.heap.size w8 (.slice p8 n c8) S ∧ Below W7.heap.size W7 w8 ∧ W7.heap.size ≤ w8.heap.size) := ⟨hr8, hb8, hb8.size⟩
            have HM8 : Hid (SA w8 r M ∧ M.length = m ∧ (r = none → d = 0)) := ⟨(HA.out.2.1.below HW7.out.1).below hb8, HA.out.2.2.2.2, HA.out.2.2.2.1⟩
            have e9' : Hid (n + m ≤ maxLen) := by show _ ≤ _; unfold maxLen; omega
            have e8' : Hid ((n + m) * 48 ≤ 140737488355328) := by show _ ≤ _; omega
            clear hr8 hb8 HS7 e9 e8
            go_upto_region 18 with (at_builtin; refine append_ga (B := W7.heap.size) slC_len slC_one Try.underlying23 info43 rfl (by decide) rfl _ _ rfl p8 n c8 S rfl HR8.out.1 HR8.out.2.2 r m d M rfl HM8.out.2.1 HM8.out.1 HM8.out.2.2 e9'.out e8'.out ?_; intro p9 c9 w9 hr9 hb9)
            have b79 : Below W7.heap.size W7 w9 := HR8.out.2.1.trans hb9
            have H11b : Hid (Calls Try.prog 11 #[.slice (some ⟨bt, 0, none⟩) 1 1, .slice p9 (n + m) c9] w9 (FitP w9 [v] (S ++ M))) := fit_any [v] (S ++ M) (some ⟨bt, 0, none⟩) p9 1 1 (n + m) c9 w9 (HW7.out.2.1.below b79) (hr9.ga slC_len) (fun s hs => by
              rcases List.mem_append.1 hs with q | q
              · exact HA.out.1.2.1 s q
              · exact HA.out.2.2.1 s q) (fun e => by subst e; exact hr9.nilc) rfl (by rw [List.length_append, HA.out.1.2.2.2, HA.out.2.2.2.2]) (by omega) (by omega)
            have B9 : Hid (Below w.heap.size w w9 ∧ NA w9 (some ⟨gn, on, none⟩) [s.nm]) := ⟨below_from HW7.out.1 b79 HW7.out.1.size, HW7.out.2.2.below b79⟩
            clear hr9 hb9 b79 HR8 HM8 e9' e8' HW7
            go_upto_region 19 with (go_at_call 11; refine H11b.out.mono ?_; rintro e w10 ⟨qo, ko, co, rfl, hko, -, h10⟩)
            clear H11b
            rcases chk_one v (S ++ M) with hc2 | hc2 | hc2
            · have hf2 : fitR [v] (S ++ M) = (0, [s.nm]) := fit_one_some hc2 (hold_more HH.out.1) (by rw [List.getElem?_append_left (List.getElem?_eq_some_iff.1 HH.out.2).1]; exact HH.out.2)
              rw [hf2] at hko h10 ⊢
              obtain rfl : 1 = ko := hko
              have H14 : Hid (Calls Try.prog 14 #[.slice (some ⟨gn, on, none⟩) 1 cn, .slice qo 1 co] w10 fun e w' => e = .returned (.bool true) ∧ Hid (Below w10.heap.size w10 w')) := same_any w10 1 cn co (some ⟨gn, on, none⟩) qo [s.nm] (B9.out.2.below h10.out.2) h10.out.1 (rfl : _ = _) (by omega)
              go_wp2_with (go_at_call 14; refine H14.out.mono ?_; rintro e w11 ⟨rfl, b11⟩)
              go_ret
              exact ⟨rfl, below_from (below_from B9.out.1 h10.out.2 B9.out.1.size) b11.out (by have := B9.out.1.size; have := h10.out.2.size; omega)⟩
            · have hf2 : fitR [v] (S ++ M) = (4, []) := by unfold fitR; rw [if_neg (by rw [hc2]; decide), hc2]
              rw [hf2]
              go_wp2_with fail
              go_ret
              exact ⟨rfl, below_from B9.out.1 h10.out.2 B9.out.1.size⟩
            · have hf2 : fitR [v] (S ++ M) = (5, []) := by unfold fitR; rw [if_neg (by rw [hc2]; decide), hc2]
              rw [hf2]
              go_wp2_with fail
              go_ret
              exact ⟨rfl, below_from B9.out.1 h10.out.2 B9.out.1.size⟩
      | none =>
        have hfo := fit_one_none hc hh
        have HH : Hid (hold v S = none) := hh
        rw [hfo] at hkn B5 ⊢
        obtain rfl : 0 = kn := hkn
        clear hfo hh hc
        go_upto_region 8 with fail
        have hw1 : IntKind.i64.wrap ((n : Int) - 1) = (n : Int) - 1 := by simp [IntKind.wrap, IntKind.bits, IntKind.signed]; omega
        go_wp2_with fail
        clear hw1
        go_loopw [10, 11] (fun y x wr => ∃ (j : Nat) (b : Int), y = .int .i64 b ∧ x = .int .i64 ((j : Int) - 1) ∧ j ≤ n ∧ Hid (Bs v S j b ∧ Below w5.heap.size w5 wr)) (fun _ x _ => (intOf x + 1).toNat)
        case atStart => exact ⟨n, -1, rfl, rfl, Nat.le_refl _, .inl ⟨rfl, fun i s hi hs => by have := (List.getElem?_eq_some_iff.1 hs).1; have := HA.out.1.2.2.2; omega⟩, Below.refl _ _⟩
        case round =>
          obtain ⟨j, b, rfl, rfl, hj, HI⟩ := hrel
          have HW : Hid (Below w.heap.size w wr ∧ wr.heap[bx]? = some (.cells #[.int .i64 v.a, .int .i64 v.b, .int .i64 v.c, .int .i64 v.d] 41) ∧ TA wr (some ⟨bt, 0, none⟩) [v] ∧ NA wr qn []) := ⟨below_from B5.out.1 HI.out.2 B5.out.1.size, at_below HI.out.2 (Nat.le_refl _) B5.out.2.1, B5.out.2.2.1.below HI.out.2, B5.out.2.2.2.below HI.out.2⟩
          cases j with
          | succ t =>
            have hx : ((t + 1 : Nat) : Int) - 1 = (t : Int) := by omega
            rw [hx]
            clear hx
            have t0 : (0 : Int) ≤ (t : Int) := by omega
            have t1 : (t : Int) < (n : Int) := by omega
            have tw : IntKind.i64.wrap ((t : Int) - 1) = (t : Int) - 1 := by simp [IntKind.wrap, IntKind.bits, IntKind.signed]; omega
            obtain ⟨s1, hs1⟩ : ∃ s1, S[t]? = some s1 := ⟨_, List.getElem?_eq_getElem (by have := HA.out.1.2.2.2; omega)⟩
            obtain ⟨g, o, rfl, -, c1, c2, c3, c4⟩ := SA.at (HA.out.1.1.below HW.out.1) hs1
            have c2 : wr.cell? ⟨g, o + t * 5 + 1 + 1, none⟩ = some (.int .i64 s1.v.b) := c2
            have c3 : wr.cell? ⟨g, o + t * 5 + 1 + 2, none⟩ = some (.int .i64 s1.v.c) := c3
            have c4 : wr.cell? ⟨g, o + t * 5 + 1 + 3, none⟩ = some (.int .i64 s1.v.d) := c4
            obtain ⟨x0, x1, x2, x3⟩ := HV.out wr HW.out.2.1
            have H20 : Hid (∀ w, Calls Try.prog 20 #[.agg #[.int .i64 v.a, .int .i64 v.b, .int .i64 v.c, .int .i64 v.d], .agg #[.int .i64 s1.v.a, .int .i64 s1.v.b, .int .i64 s1.v.c, .int .i64 s1.v.d]] w fun r w' => r = .returned (.bool (ftV v s1.v)) ∧ Below w.heap.size w w') := fun w => rfits_any _ _ _ _ _ _ _ _ w
            obtain ⟨fb, hfb⟩ : ∃ fb, fb = ftV v s1.v := ⟨_, rfl⟩
            rw [← hfb] at H20
            have HN : Hid (Bs v S t (if fb then (t : Int) else b)) := by
              cases fb with
              | true => exact .inr ⟨t, rfl, Nat.le_refl _, ⟨s1, hs1, hfb.symm⟩, fun i s h1 h2 => absurd h1 (by omega)⟩
              | false =>
                rcases HI.out.1 with ⟨e, h⟩ | ⟨k, e, h1, h2, h3⟩
                · refine .inl ⟨e, fun i s hi hs => ?_⟩
                  by_cases q : i = t
                  · subst q; rw [hs1] at hs; cases hs; exact hfb.symm
                  · exact h i s (by omega) hs
                · refine .inr ⟨k, e, by omega, h2, fun i s hi hk hs => ?_⟩
                  by_cases q : i = t
                  · subst q; rw [hs1] at hs; cases hs; exact hfb.symm
                  · exact h3 i s (by omega) hk hs
            have HI2 : Hid (Below w5.heap.size w5 wr) := HI.out.2
            clear hs1 hfb HI HW
            generalize hv1 : v.a = va at *
            generalize hv2 : v.b = vb at *
            generalize hv3 : v.c = vc at *
            generalize hv4 : v.d = vd at *
            obtain ⟨sn, ⟨sa, sb, sc, sd⟩⟩ := s1
            simp only [] at c1 c2 c3 c4 H20
            go_upto_region 11 with fail
            have G20 := grown (W := wr) H20
            have m0 := cell_regrown x0
            have m1 := cell_regrown x1
            have m2 := cell_regrown x2
            have m3 := cell_regrown x3
            have p1 := cell_regrown c1
            have p2 := cell_regrown c2
            have p3 := cell_regrown c3
            have p4 := cell_regrown c4
            refine wp_region_quiet_below (by kernel_rfl) (by kernel_rfl) ?_
            repeat (first | go_big_quiet_step ((go_at_call 20; exact G20.out _ _)) | quiet_step ((go_at_call 20; exact G20.out _ _)))
            refine wpQuiet_nil ?_
            intro _ hw'
            obtain ⟨⟨dq, osq⟩, hw''⟩ := hw'
            subst hw''
            have BN : Hid (Below w5.heap.size w5 (grow (redrawn wr dq) osq)) := below_from HI2.out (below_regrown wr dq osq) HI2.out.size
            clear m0 m1 m2 m3 p1 p2 p3 p4 x0 x1 x2 x3 c1 c2 c3 c4 G20 H20 HI2 hv1 hv2 hv3 hv4
            generalize grow (redrawn wr dq) osq = W7 at *
            cases fb with
            | true =>
              go_wp2_with fail
              exact ⟨⟨t, t, by simp, by simp, by omega, HN.out, BN.out⟩, by simp only [intOf]; omega⟩
            | false =>
              go_wp2_with fail
              exact ⟨⟨t, b, by simp, by simp, by omega, HN.out, BN.out⟩, by simp only [intOf]; omega⟩
          | zero =>
            have hx : ((0 : Nat) : Int) - 1 = -1 := by omega
            rw [hx]
            clear hx hj
            have HB : Hid (Bs v S 0 b) := HI.out.1
            clear HI
            obtain rfl : b = -1 := by
              rcases bs_hold HB.out with ⟨e, _⟩ | ⟨k2, e, h⟩
              · exact e
              · rw [HH.out] at h; cases h
            clear HB
            go_upto_region 13 with fail
            go_quiet (fail)
            have HW7 : Hid (Below w.heap.size w (wr.drewN nq) ∧ TA (wr.drewN nq) (some ⟨bt, 0, none⟩) [v]) := ⟨below_drewN HW.out.1 nq, HW.out.2.2.1.below (below_drewN (Below.refl _ _) nq)⟩
            clear HW
            generalize wr.drewN nq = W7 at *
            have e9 : Hid (0 + n ≤ maxLen) := by show _ ≤ _; unfold maxLen; omega
            have e8 : Hid ((0 + n) * 48 ≤ 140737488355328) := by show _ ≤ _; omega
            have HS7 : Hid (SA W7 q S ∧ S.length = n ∧ ((q : Option Addr) = none → c = 0)) := ⟨HA.out.1.1.below HW7.out.1, HA.out.1.2.2.2, HA.out.1.2.2.1⟩
            go_upto_region 17 with (at_builtin; refine append_ga (B := W7.heap.size) slC_len slC_one Try.underlying23 info43 rfl (by decide) rfl _ _ rfl none 0 0 [] rfl (GRow.nil _ _ _ _ _) (Nat.le_refl _) q n c S rfl HS7.out.2.1 HS7.out.1 HS7.out.2.2 e9.out e8.out ?_; intro p8 c8 w8 hr8 hb8)
            rw [Nat.zero_add] at hr8
            have HR8 : Hid (SR W7.heap.size w8 (.slice p8 n c8) S ∧ Below W7.heap.size W7 w8 ∧ W7.heap.size ≤ w8.heap.size) := ⟨hr8, hb8, hb8.size⟩
            have HM8 : Hid (SA w8 r M ∧ M.length = m ∧ (r = none → d = 0)) := ⟨(HA.out.2.1.below HW7.out.1).below hb8, HA.out.2.2.2.2, HA.out.2.2.2.1⟩
            have e9' : Hid (n + m ≤ maxLen) := by show _ ≤ _; unfold maxLen; omega
            have e8' : Hid ((n + m) * 48 ≤ 140737488355328) := by show _ ≤ _; omega
            clear hr8 hb8 HS7 e9 e8
            go_upto_region 18 with (at_builtin; refine append_ga (B := W7.heap.size) slC_len slC_one Try.underlying23 info43 rfl (by decide) rfl _ _ rfl p8 n c8 S rfl HR8.out.1 HR8.out.2.2 r m d M rfl HM8.out.2.1 HM8.out.1 HM8.out.2.2 e9'.out e8'.out ?_; intro p9 c9 w9 hr9 hb9)
            have b79 : Below W7.heap.size W7 w9 := HR8.out.2.1.trans hb9
            have H11b : Hid (Calls Try.prog 11 #[.slice (some ⟨bt, 0, none⟩) 1 1, .slice p9 (n + m) c9] w9 (FitP w9 [v] (S ++ M))) := fit_any [v] (S ++ M) (some ⟨bt, 0, none⟩) p9 1 1 (n + m) c9 w9 (HW7.out.2.below b79) (hr9.ga slC_len) (fun s hs => by
              rcases List.mem_append.1 hs with q | q
              · exact HA.out.1.2.1 s q
              · exact HA.out.2.2.1 s q) (fun e => by subst e; exact hr9.nilc) rfl (by rw [List.length_append, HA.out.1.2.2.2, HA.out.2.2.2.2]) (by omega) (by omega)
            have B9 : Hid (Below w.heap.size w w9) := below_from HW7.out.1 b79 HW7.out.1.size
            clear hr9 hb9 b79 HR8 HM8 e9' e8' HW7
            go_upto_region 19 with (go_at_call 11; refine H11b.out.mono ?_; rintro e w10 ⟨qo, ko, co, rfl, hko, -, h10⟩)
            clear H11b
            rcases chk_one v (S ++ M) with hc2 | hc2 | hc2
            · obtain ⟨ff, hff, hff2⟩ : ∃ ff : Nat, (fitR [v] (S ++ M)).1 = ff ∧ (ff = 0 ∨ ff = 6) := by
                cases hh : hold v (S ++ M) with
                | none => exact ⟨6, by rw [fit_one_none hc2 hh], .inr rfl⟩
                | some k =>
                  obtain ⟨s, hs, _⟩ := hold_some hh
                  exact ⟨0, by rw [fit_one_some hc2 hh hs], .inl rfl⟩
              rw [hff]
              rcases hff2 with rfl | rfl
              · go_wp2_with fail
                go_ret
                exact ⟨rfl, below_from B9.out h10.out.2 B9.out.size⟩
              · go_wp2_with fail
                go_ret
                exact ⟨rfl, below_from B9.out h10.out.2 B9.out.size⟩
            · have hf2 : fitR [v] (S ++ M) = (4, []) := by unfold fitR; rw [if_neg (by rw [hc2]; decide), hc2]
              rw [hf2]
              go_wp2_with fail
              go_ret
              exact ⟨rfl, below_from B9.out h10.out.2 B9.out.size⟩
            · have hf2 : fitR [v] (S ++ M) = (5, []) := by unfold fitR; rw [if_neg (by rw [hc2]; decide), hc2]
              rw [hf2]
              go_wp2_with fail
              go_ret
              exact ⟨rfl, below_from B9.out h10.out.2 B9.out.size⟩
    · have hf2 : fitR [v] S = (4, []) := by unfold fitR; rw [if_neg (by rw [hc]; decide), hc]
      rw [hf2] at hkn ⊢
      obtain rfl : 0 = kn := hkn
      go_wp2_with fail
      go_ret
      exact ⟨rfl, B5.out.1⟩
    · have hf2 : fitR [v] S = (5, []) := by unfold fitR; rw [if_neg (by rw [hc]; decide), hc]
      rw [hf2] at hkn ⊢
      obtain rfl : 0 = kn := hkn
      go_wp2_with fail
      go_ret
      exact ⟨rfl, B5.out.1⟩
  · go_enter Try.func7, Try.ntmps7
    go_upto_region 1 with fail
    generalize w.alloc (.cells #[.int .i64 v.a, .int .i64 v.b, .int .i64 v.c, .int .i64 v.d] 41) = W0 at *
    by_cases hn : n ≤ 100
    · have hm : ¬ m ≤ 100 := fun h => hf ⟨hn, h⟩
      rw [decide_eq_true hn] at H10
      rw [decide_eq_false hm] at H10'
      go_upto_region 2 with (first | (go_at_call 9; refine (H9.out _).mono ?_; rintro e w1 ⟨rfl, b1⟩) | (go_at_call 10; refine (H10.out _).mono ?_; rintro e w2 ⟨rfl, b2⟩; clear H10) | (go_at_call 10; refine (H10'.out _).mono ?_; rintro e w3 ⟨rfl, b3⟩))
      go_wp2_with (go_at_call 9; refine (H9.out _).mono ?_; rintro e w4 ⟨rfl, b4⟩)
      go_ret
      exact ⟨rfl, below_from (below_from (below_from (below_from B0.out b1.out B0.out.size) b2.out (by have := B0.out.size; have := b1.out.size; omega)) b3.out (by have := B0.out.size; have := b1.out.size; have := b2.out.size; omega)) b4.out (by have := B0.out.size; have := b1.out.size; have := b2.out.size; have := b3.out.size; omega)⟩
    · rw [decide_eq_false hn] at H10
      clear H10'
      go_upto_region 2 with (first | (go_at_call 9; refine (H9.out _).mono ?_; rintro e w1 ⟨rfl, b1⟩) | (go_at_call 10; refine (H10.out _).mono ?_; rintro e w2 ⟨rfl, b2⟩; clear H10))
      go_wp2_with (go_at_call 9; refine (H9.out _).mono ?_; rintro e w4 ⟨rfl, b4⟩)
      go_ret
      exact ⟨rfl, below_from (below_from (below_from B0.out b1.out B0.out.size) b2.out (by have := B0.out.size; have := b1.out.size; omega)) b4.out (by have := B0.out.size; have := b1.out.size; have := b2.out.size; omega)⟩
end Go.Proofs.Ytclhnclhocekkaa
