/-
  The law FillNow.
-/
import Derived.Test.YtjgibngnjlciaaaOpn
namespace Go.Proofs.Ytjgibngnjlciaaa
open Go.RowKit Go.Maps

theorem chk_four (T : List V) (S : List Sl) : chk T S = 4 ∨ chk T S = 5 ∨ chk T S = 2 ∨ chk T S = 0 := by
  unfold chk
  repeat' split
  all_goals simp
theorem movR_not6 (f : V → V → V × Nat) (T : List V) (N : List (List UInt8)) (S : List Sl) : (movR f T N S).1 ≠ 6 := by
  have h := chk_four T S
  unfold movR
  split
  · split
    · split
      · split <;> exact nofun
      · exact nofun
    · exact nofun
  · show chk T S ≠ 6
    omega
theorem gvG_not6 : ∀ (L : List Vi) (S : List Sl), (gvG L S).1 ≠ 6
  | [], S => by show (0 : Nat) ≠ 6; decide
  | v :: r, S => by
    unfold gvG
    split
    · exact gvG_not6 r _
    · exact movR_not6 _ _ _ _
/-- what Start's answer is, and Fit's -/
theorem now_math (now : Int) (T : List V) (R : List Vi) (S : List Sl) : ((startR now T R S).2.2 ≠ 0 → (startR now T R S).1 = 0 ∧ (startR now T R S).2.1 = [] ∧ ((fitR T S).1 = 0 → (startR now T R S).2.2 ≠ 6)) ∧ ((startR now T R S).2.2 = 0 → wthn now R = true ∧ Gv R S ∧ allS S = true ∧ Nod S ∧ (gvG R S).1 = 0 ∧ staN now T R S = some (startR now T R S).1 ∧ (startR now T R S).2.1 = (fitR T (stA now R S (startR now T R S).1)).2 ∧ ((fitR T S).1 = 0 ∨ (fitR T S).1 = 6)) := by
  by_cases hw : wthn now R = true
  · by_cases hf : (fitR T S).1 = 0 ∨ (fitR T S).1 = 6
    · by_cases hg : (gvG R S).1 = 0
      · cases hs : staN now T R S with
        | none =>
          rw [startR_none hw hf hg hs]
          refine ⟨fun _ => ⟨rfl, rfl, fun h0 => ?_⟩, fun h => absurd h (by decide)⟩
          exact absurd (by unfold fitT; rw [stA_now]; exact h0) (staN_none.1 hs now (cand_mem.2 (.inl rfl)))
        | some t =>
          rw [startR_some hw hf hg hs]
          obtain ⟨k1, k2, k3, k4⟩ := fit_chk hf
          exact ⟨fun h => absurd rfl h, fun _ => ⟨hw, all_give R S k2 hg, k2, k3, hg, rfl, rfl, hf⟩⟩
      · rw [startR_give hw hf hg]
        exact ⟨fun _ => ⟨rfl, rfl, fun _ => gvG_not6 R S⟩, fun h => absurd h hg⟩
    · rw [startR_fit hw hf]
      exact ⟨fun _ => ⟨rfl, rfl, fun h => absurd (.inl h) hf⟩, fun h => absurd (.inl h) hf⟩
  · rw [startR_range (Bool.eq_false_iff.2 hw)]
    exact ⟨fun _ => ⟨rfl, rfl, fun _ => by decide⟩, fun h => absurd h (by decide)⟩
theorem start_len (now : Int) (T : List V) (R : List Vi) (S : List Sl) : (startR now T R S).2.1.length ≤ T.length := by
  have h := now_math now T R S
  by_cases h0 : (startR now T R S).2.2 = 0
  · rw [(h.2 h0).2.2.2.2.2.2.1]
    rcases fitR_len T (stA now R S (startR now T R S).1) with ⟨_, q, _⟩ | ⟨_, q⟩
    · omega
    · rw [q]; exact Nat.zero_le _
  · rw [(h.1 h0).2.1]; exact Nat.zero_le _
theorem now_zero {now : Int} {T : List V} {R : List Vi} {S : List Sl} (h : (startR now T R S).2.2 = 0) (ht : (startR now T R S).1 = now) : (fitR T S).1 = 0 ∧ (startR now T R S).2.1 = (fitR T S).2 := by
  obtain ⟨_, _, _, _, _, h1, h2, _⟩ := (now_math now T R S).2 h
  rw [ht, stA_now] at h2
  obtain ⟨_, h3, _⟩ := staN_some.1 h1
  rw [ht] at h3
  unfold fitT at h3
  rw [stA_now] at h3
  exact ⟨h3, h2⟩
theorem now_later {now : Int} {T : List V} {R : List Vi} {S : List Sl} (h : (startR now T R S).2.2 = 0) (ht : (startR now T R S).1 ≠ now) : now < (startR now T R S).1 ∧ (fitR T S).1 = 6 ∧ R.any (fun r => decide (en now r = (startR now T R S).1)) = true := by
  obtain ⟨_, _, _, _, _, h1, _, h3⟩ := (now_math now T R S).2 h
  obtain ⟨a, b, c⟩ := staN_some.1 h1
  rcases cand_mem.1 a with q | ⟨r, hr, q⟩
  · exact absurd q ht
  · refine ⟨by rw [← q]; exact en_gt now r, ?_, List.any_eq_true.2 ⟨r, hr, by simpa using q⟩⟩
    rcases h3 with z | z
    · have := c now (cand_mem.2 (.inl rfl)) (by unfold fitT; rw [stA_now]; exact z)
      have := en_gt now r
      omega
    · exact z
set_option maxHeartbeats 4000000 in
set_option maxRecDepth 100000 in
theorem now_law (now rt : Int) (qH qL qv r : Option Addr) (nH cH nL cL nv cv m d : Nat) (T U : List V) (L : List Vi) (S : List Sl) (w : World) (hA : LwA w now rt qH nH cH T qL nL cL U qv nv L r m d S) :
    Calls Try.prog 5 #[xA now rt qH nH cH qL nL cL, .slice qv nv cv, .slice r m d] w fun e w' => e = .returned (.bool true) ∧ Below w.heap.size w w' := by
  have H7 : Hid (∀ W, Calls Try.prog 7 #[] W fun e w' => e = .returned (.bool true) ∧ Below W.heap.size W w') := awake18
  have H8 : Hid (∀ W, Below w.heap.size w W → Calls Try.prog 8 #[xA now rt qH nH cH qL nL cL, .slice qv nv cv, .slice r m d] W fun e w' => e = .returned (.bool (fewV nH nL L m)) ∧ Hid (Below W.heap.size W w')) := hA.few cv
  have HA : Hid (LwA w now rt qH nH cH T qL nL cL U qv nv L r m d S) := hA
  clear hA
  have B0 : Hid (Below w.heap.size w (w.alloc (.cells #[.int .i64 now, .int .i64 rt, .slice qH nH cH, .slice qL nL cL] 24))) := (Below.refl _ w).alloc (Nat.le_refl _) _
  have HN : Hid ((w.alloc (.cells #[.int .i64 now, .int .i64 rt, .slice qH nH cH, .slice qL nL cL] 24)).heap[w.heap.size]? = some (.cells #[.int .i64 now, .int .i64 rt, .slice qH nH cH, .slice qL nL cL] 24)) := new0
  cases hf : fewV nH nL L m with
  | false =>
    rw [hf] at H8
    clear hf
    go_enter Try.func5, Try.ntmps5
    go_upto_region 1 with fail
    generalize w.alloc (.cells #[.int .i64 now, .int .i64 rt, .slice qH nH cH, .slice qL nL cL] 24) = W at *
    go_upto_region 2 with (first | (go_at_call 7; refine (H7.out _).mono ?_; rintro e w1 ⟨rfl, b1⟩; have B1 : Hid (Below w.heap.size w w1) := below_from B0.out b1 B0.out.size; have z1 := at_below b1 (Nat.le_refl _) HN.out; have c0 := Lib.cell_of_heap z1 0; have c1 := Lib.cell_of_heap z1 1; have c2 := Lib.cell_of_heap z1 2; have c3 := Lib.cell_of_heap z1 3; clear z1) | (go_at_call 8; refine (H8.out _ B1.out).mono ?_; rintro e w2 ⟨rfl, b2⟩))
    have B2 : Hid (Below w.heap.size w w2) := below_from B1.out b2.out B1.out.size
    clear c0 c1 c2 c3 b1 b2
    go_wp2_with (go_at_call 7; refine (H7.out _).mono ?_; rintro e w3 ⟨rfl, b3⟩)
    go_ret
    exact ⟨rfl, below_from B2.out b3 B2.out.size⟩
  | true =>
    have HG := HA.out.st hf
    obtain ⟨f1, f2, f3, f4, f5⟩ := fewV_le hf
    have HS : Hid (StG w qH nH cH qv nv r m d T L S) := HG
    obtain ⟨t, ht⟩ : ∃ t, (startR now T L S).1 = t := ⟨_, rfl⟩
    obtain ⟨N, hN⟩ : ∃ N, (startR now T L S).2.1 = N := ⟨_, rfl⟩
    obtain ⟨en', he⟩ : ∃ x, (startR now T L S).2.2 = x := ⟨_, rfl⟩
    obtain ⟨f, hff⟩ : ∃ x, (fitR T S).1 = x := ⟨_, rfl⟩
    obtain ⟨M, hM⟩ : ∃ M, (fitR T S).2 = M := ⟨_, rfl⟩
    have H9 : Hid (∀ W, Below w.heap.size w W → Calls Try.prog 9 #[.int .i64 now, .slice qH nH cH, .slice qv nv cv, .slice r m d] W fun e w' => ∃ p k c, e = .returned (.tuple #[.int .i64 t, .slice p k c, .int .i64 (en' : Nat)]) ∧ N.length = k ∧ Hid (NA w' p N ∧ Below W.heap.size W w')) := fun W b => (start_any now qH qv r nH cH nv cv m d T L S W (HS.out.below b)).mono fun e w' ⟨p, k, c, e1, e2, e3, e4⟩ => by
      rw [ht, he] at e1; rw [hN] at e2 e4; exact ⟨p, k, c, e1, e2, e4⟩
    have H16 : Hid (∀ W, Below w.heap.size w W → Calls Try.prog 16 #[.slice qH nH cH, .slice r m d] W fun e w' => ∃ p k c, e = .returned (.tuple #[.slice p k c, .int .i64 (f : Nat)]) ∧ M.length = k ∧ Hid (NA w' p M ∧ Below W.heap.size W w')) := fun W b => ((HS.out.below b).fit).mono fun e w' ⟨p, k, c, e1, e2, e3, e4⟩ => by
      rw [hff] at e1; rw [hM] at e2 e4; exact ⟨p, k, c, e1, e2, e4⟩
    have HM1 : Hid (N.length ≤ 1000000 ∧ M.length ≤ 1000000 ∧ nv ≤ 30) := by
      have h1 := start_len now T L S
      have h2 := HS.out.lt
      have h3 := HS.out.n1
      have h4 := HS.out.lr
      rw [hN] at h1
      refine ⟨by omega, ?_, by omega⟩
      rcases fitR_len T S with ⟨_, q, _⟩ | ⟨_, q⟩ <;> rw [hM] at q
      · omega
      · rw [q]; exact Nat.zero_le _
    have hnow := HA.out.n
    obtain ⟨m1, -⟩ := now_math now T L S
    have m2 := now_zero (now := now) (T := T) (R := L) (S := S)
    have m3 := now_later (now := now) (T := T) (R := L) (S := S)
    rw [ht, hN, he, hff] at m1
    rw [ht, hN, he, hff, hM] at m2
    rw [ht, he, hff] at m3
    have m1' : Hid (en' ≠ 0 → t = 0 ∧ N = [] ∧ (f = 0 → en' ≠ 6)) := m1
    have m2' : Hid (en' = 0 → t = now → f = 0 ∧ N = M) := m2
    have m3' : Hid (en' = 0 → t ≠ now → now < t ∧ f = 6 ∧ (L.any fun r => decide (en now r = t)) = true) := m3
    have HW : Hid (en' = 0 → wthn now L = true) := fun q => ((now_math now T L S).2 (he.trans q)).1
    rw [hf] at H8
    clear hf HG m1 m2 m3 ht hN he hff hM f1 f2 f3 f4 f5
    by_cases h0 : en' = 0
    · subst h0
      by_cases htn : t = now
      · subst htn
        obtain ⟨q1, q2⟩ := m2'.out rfl rfl
        subst q1 q2
        have H13 : Hid (∀ W k q1 c1 q2 c2, NA W q1 N → NA W q2 N → N.length = k → Calls Try.prog 13 #[.slice q1 k c1, .slice q2 k c2] W fun e w' => e = .returned (.bool true) ∧ Hid (Below W.heap.size W w')) := fun W k q1 c1 q2 c2 a b hk => same_any W k c1 c2 q1 q2 N a b hk (by have := HM1.out.1; omega)
        clear m1' m2' m3' HW
        go_enter Try.func5, Try.ntmps5
        go_upto_region 1 with fail
        generalize w.alloc (.cells #[.int .i64 t, .int .i64 rt, .slice qH nH cH, .slice qL nL cL] 24) = W at *
        go_upto_region 3 with (first | (go_at_call 7; refine (H7.out _).mono ?_; rintro e w1 ⟨rfl, b1⟩; have B1 : Hid (Below w.heap.size w w1 ∧ Below W.heap.size W w1) := ⟨below_from B0.out b1 B0.out.size, b1⟩; have z1 := at_below b1 (Nat.le_refl _) HN.out; have c0 := Lib.cell_of_heap z1 0; have c1 := Lib.cell_of_heap z1 1; have c2 := Lib.cell_of_heap z1 2; have c3 := Lib.cell_of_heap z1 3; clear z1 b1) | (go_at_call 8; refine (H8.out _ B1.out.1).mono ?_; rintro e w2 ⟨rfl, b2⟩))
        have B2 : Hid (Below w.heap.size w w2 ∧ w2.heap[w.heap.size]? = some (.cells #[.int .i64 t, .int .i64 rt, .slice qH nH cH, .slice qL nL cL] 24)) := ⟨below_from B1.out.1 b2.out B1.out.1.size, at_below (below_from B1.out.2 b2.out B1.out.2.size) (Nat.le_refl _) HN.out⟩
        clear c0 c1 c2 c3 b2 B1
        have c0 := Lib.cell_of_heap B2.out.2 0
        have c2 := Lib.cell_of_heap B2.out.2 2
        go_wp2_with (first
          | (go_at_call 9; refine (H9.out _ B2.out.1).mono ?_; rintro e w3 ⟨p3, k3, c3, rfl, n3, h3⟩; have B3 : Hid (Below w.heap.size w w3) := below_from B2.out.1 h3.out.2 B2.out.1.size; have z0 := cell_below c0 h3.out.2; have z2 := cell_below c2 h3.out.2; clear c0 c2)
          | (go_at_call 16; refine (H16.out _ B3.out).mono ?_; rintro e w4 ⟨p4, k4, c4, rfl, n4, h4⟩; obtain rfl : k3 = k4 := n3.symm.trans n4; have B4 : Hid (Below w.heap.size w w4) := below_from B3.out h4.out.2 B3.out.size; have y0 := cell_below z0 h4.out.2; clear z0 z2)
          | (go_at_call 13; refine (H13.out _ _ _ _ _ _ (h3.out.1.below h4.out.2) h4.out.1 n3).mono ?_; rintro e w5 ⟨rfl, b5⟩))
        go_ret
        exact ⟨rfl, below_from B4.out b5.out B4.out.size⟩
      · obtain ⟨q1, q2, q3⟩ := m3'.out rfl htn
        subst q2
        have HY : Hid ((L.any fun r => decide (en now r = t)) = true) := q3
        obtain ⟨w1', w2', w3', w4'⟩ := wthn_true (HW.out rfl)
        have hlt : now < t := q1
        have hnt : (t == now) = false := by simpa using htn
        have hnv : nv ≤ 30 := HM1.out.2.2
        clear m1' m2' m3' HW q3 w3' w4' q1
        go_enter Try.func5, Try.ntmps5
        go_upto_region 1 with fail
        generalize w.alloc (.cells #[.int .i64 now, .int .i64 rt, .slice qH nH cH, .slice qL nL cL] 24) = W at *
        go_upto_region 3 with (first | (go_at_call 7; refine (H7.out _).mono ?_; rintro e w1 ⟨rfl, b1⟩; have B1 : Hid (Below w.heap.size w w1 ∧ Below W.heap.size W w1) := ⟨below_from B0.out b1 B0.out.size, b1⟩; have z1 := at_below b1 (Nat.le_refl _) HN.out; have c0 := Lib.cell_of_heap z1 0; have c1 := Lib.cell_of_heap z1 1; have c2 := Lib.cell_of_heap z1 2; have c3 := Lib.cell_of_heap z1 3; clear z1 b1) | (go_at_call 8; refine (H8.out _ B1.out.1).mono ?_; rintro e w2 ⟨rfl, b2⟩))
        have B2 : Hid (Below w.heap.size w w2 ∧ w2.heap[w.heap.size]? = some (.cells #[.int .i64 now, .int .i64 rt, .slice qH nH cH, .slice qL nL cL] 24)) := ⟨below_from B1.out.1 b2.out B1.out.1.size, at_below (below_from B1.out.2 b2.out B1.out.2.size) (Nat.le_refl _) HN.out⟩
        clear c0 c1 c2 c3 b2 B1
        have c0 := Lib.cell_of_heap B2.out.2 0
        have c2 := Lib.cell_of_heap B2.out.2 2
        go_wp2_with (first
          | (go_at_call 9; refine (H9.out _ B2.out.1).mono ?_; rintro e w3 ⟨p3, k3, c3, rfl, n3, h3⟩; have B3 : Hid (Below w.heap.size w w3) := below_from B2.out.1 h3.out.2 B2.out.1.size; have z0 := cell_below c0 h3.out.2; have z2 := cell_below c2 h3.out.2; clear c0 c2)
          | (go_at_call 16; refine (H16.out _ B3.out).mono ?_; rintro e w4 ⟨p4, k4, c4, rfl, n4, h4⟩; have B4 : Hid (Below w.heap.size w w4) := below_from B3.out h4.out.2 B3.out.size; have y0 := cell_below z0 h4.out.2; clear z0 z2))
        have Y0 : Hid (w4.cell? ⟨w.heap.size, 0, none⟩ = some (.int .i64 now)) := y0
        clear y0
        go_loopw [12, 13] (fun x y wr => ∃ i : Nat, x = .bool ((L.take i).any fun r => decide (en now r = t)) ∧ y = .int .i64 i ∧ i ≤ nv ∧ Hid (Below w4.heap.size w4 wr)) (fun _ y _ => nv - (intOf y).toNat)
        case atStart => exact ⟨0, rfl, rfl, Nat.zero_le _, Below.refl _ _⟩
        case round =>
          obtain ⟨i, rfl, rfl, hi, HB⟩ := hrel
          have y0 := cell_below Y0.out HB.out
          obtain ⟨b, hb⟩ : ∃ b, ((L.take i).any fun r => decide (en now r = t)) = b := ⟨_, rfl⟩
          rw [hb]
          have HBB : Hid (((L.take i).any fun r => decide (en now r = t)) = b) := hb
          clear hb
          by_cases hin : i = nv
          · subst hin
            have hbt : b = true := by
              have h1 := HBB.out
              rw [List.take_of_length_le (Nat.le_of_eq HA.out.vl), HY.out] at h1
              exact h1.symm
            subst hbt
            go_wp2_with fail
            go_ret
            exact ⟨rfl, below_from B4.out HB.out B4.out.size⟩
          · have hlt3 : (i : Int) < (nv : Int) := by omega
            have hd3 : decide ((i : Int) < (nv : Int)) = true := decide_eq_true hlt3
            obtain ⟨v, hv⟩ : ∃ v, L[i]? = some v := ⟨L[i]'(by have := HA.out.vl; omega), List.getElem?_eq_getElem _⟩
            obtain ⟨g, o, rfl, c0, c1, c2, c3⟩ := VA.at (HA.out.v.below (below_from B4.out HB.out B4.out.size)) hv
            have hnx : ((L.take (i + 1)).any fun r => decide (en now r = t)) = (b || decide (en now v = t)) := by
              rw [take_next hv, List.any_append, HBB.out]
              simp
            have HX : Hid (((L.take (i + 1)).any fun r => decide (en now r = t)) = (b || decide (en now v = t))) := hnx
            have HD : Hid (∀ k, Below w4.heap.size w4 (wr.drewN k)) := fun k => below_from HB.out (below_drewN (Below.refl _ wr) k) HB.out.size
            obtain ⟨E, hE⟩ : ∃ E, max v.p (now + 1) = E := ⟨_, rfl⟩
            have hEv : en now v = E := hE
            rw [hEv] at HX
            obtain ⟨vp, hvp⟩ : ∃ vp, v.p = vp := ⟨_, rfl⟩
            rw [hvp] at hE c1
            clear hv hnx hEv c2 c3 hvp HBB
            cases b with
            | true =>
              go_wp2_with fail
              go_region
              all_goals go_wp2_with fail
              all_goals exact ⟨⟨i + 1, by rw [HX.out]; rfl, by simp, by omega, HD.out _⟩, by simp only [intOf]; omega⟩
            | false =>
              by_cases hE2 : E = t
              · subst hE2
                go_wp2_with fail
                go_region
                all_goals go_wp2_with fail
                all_goals exact ⟨⟨i + 1, by rw [HX.out]; simp, by simp, by omega, HD.out _⟩, by simp only [intOf]; omega⟩
              · have e1 : ¬ t = E := fun q => hE2 q.symm
                have e2 : (t == E) = false := by simpa using e1
                go_wp2_with fail
                go_region
                all_goals go_wp2_with fail
                all_goals exact ⟨⟨i + 1, by rw [HX.out, decide_eq_false hE2]; rfl, by simp, by omega, HD.out _⟩, by simp only [intOf]; omega⟩
    · obtain ⟨q1, q2, q3⟩ := m1'.out h0
      subst q1 q2
      have g0 : ¬ (en' : Int) = 0 := by omega
      have g1 : ((en' : Int) == 0) = false := by simpa using g0
      have g2 : ((en' : Int) != 0) = true := i64_ne g0
      by_cases hf0 : f = 0
      · subst hf0
        have q6 := q3 rfl
        have g3 : ¬ (en' : Int) = 6 := by omega
        have g4 : ((en' : Int) == 6) = false := by simpa using g3
        have g5 : ((en' : Int) != 6) = true := i64_ne g3
        clear m1' m2' m3' HW q3 q6
        go_enter Try.func5, Try.ntmps5
        go_upto_region 1 with fail
        generalize w.alloc (.cells #[.int .i64 now, .int .i64 rt, .slice qH nH cH, .slice qL nL cL] 24) = W at *
        go_upto_region 3 with (first | (go_at_call 7; refine (H7.out _).mono ?_; rintro e w1 ⟨rfl, b1⟩; have B1 : Hid (Below w.heap.size w w1 ∧ Below W.heap.size W w1) := ⟨below_from B0.out b1 B0.out.size, b1⟩; have z1 := at_below b1 (Nat.le_refl _) HN.out; have c0 := Lib.cell_of_heap z1 0; have c1 := Lib.cell_of_heap z1 1; have c2 := Lib.cell_of_heap z1 2; have c3 := Lib.cell_of_heap z1 3; clear z1 b1) | (go_at_call 8; refine (H8.out _ B1.out.1).mono ?_; rintro e w2 ⟨rfl, b2⟩))
        have B2 : Hid (Below w.heap.size w w2 ∧ w2.heap[w.heap.size]? = some (.cells #[.int .i64 now, .int .i64 rt, .slice qH nH cH, .slice qL nL cL] 24)) := ⟨below_from B1.out.1 b2.out B1.out.1.size, at_below (below_from B1.out.2 b2.out B1.out.2.size) (Nat.le_refl _) HN.out⟩
        clear c0 c1 c2 c3 b2 B1
        have c0 := Lib.cell_of_heap B2.out.2 0
        have c2 := Lib.cell_of_heap B2.out.2 2
        go_wp2_with (first
          | (go_at_call 9; refine (H9.out _ B2.out.1).mono ?_; rintro e w3 ⟨p3, k3, c3, rfl, n3, h3⟩; obtain rfl : 0 = k3 := n3; have B3 : Hid (Below w.heap.size w w3) := below_from B2.out.1 h3.out.2 B2.out.1.size; have z0 := cell_below c0 h3.out.2; have z2 := cell_below c2 h3.out.2; clear c0 c2)
          | (go_at_call 16; refine (H16.out _ B3.out).mono ?_; rintro e w4 ⟨p4, k4, c4, rfl, n4, h4⟩; have B4 : Hid (Below w.heap.size w w4) := below_from B3.out h4.out.2 B3.out.size))
        go_ret
        exact ⟨rfl, B4.out⟩
      · have f0 : ¬ (f : Int) = 0 := by omega
        have f1 : ((f : Int) == 0) = false := by simpa using f0
        have f2 : ((f : Int) != 0) = true := i64_ne f0
        clear m1' m2' m3' HW q3
        go_enter Try.func5, Try.ntmps5
        go_upto_region 1 with fail
        generalize w.alloc (.cells #[.int .i64 now, .int .i64 rt, .slice qH nH cH, .slice qL nL cL] 24) = W at *
        go_upto_region 3 with (first | (go_at_call 7; refine (H7.out _).mono ?_; rintro e w1 ⟨rfl, b1⟩; have B1 : Hid (Below w.heap.size w w1 ∧ Below W.heap.size W w1) := ⟨below_from B0.out b1 B0.out.size, b1⟩; have z1 := at_below b1 (Nat.le_refl _) HN.out; have c0 := Lib.cell_of_heap z1 0; have c1 := Lib.cell_of_heap z1 1; have c2 := Lib.cell_of_heap z1 2; have c3 := Lib.cell_of_heap z1 3; clear z1 b1) | (go_at_call 8; refine (H8.out _ B1.out.1).mono ?_; rintro e w2 ⟨rfl, b2⟩))
        have B2 : Hid (Below w.heap.size w w2 ∧ w2.heap[w.heap.size]? = some (.cells #[.int .i64 now, .int .i64 rt, .slice qH nH cH, .slice qL nL cL] 24)) := ⟨below_from B1.out.1 b2.out B1.out.1.size, at_below (below_from B1.out.2 b2.out B1.out.2.size) (Nat.le_refl _) HN.out⟩
        clear c0 c1 c2 c3 b2 B1
        have c0 := Lib.cell_of_heap B2.out.2 0
        have c2 := Lib.cell_of_heap B2.out.2 2
        go_wp2_with (first
          | (go_at_call 9; refine (H9.out _ B2.out.1).mono ?_; rintro e w3 ⟨p3, k3, c3, rfl, n3, h3⟩; obtain rfl : 0 = k3 := n3; have B3 : Hid (Below w.heap.size w w3) := below_from B2.out.1 h3.out.2 B2.out.1.size; have z0 := cell_below c0 h3.out.2; have z2 := cell_below c2 h3.out.2; clear c0 c2)
          | (go_at_call 16; refine (H16.out _ B3.out).mono ?_; rintro e w4 ⟨p4, k4, c4, rfl, n4, h4⟩; have B4 : Hid (Below w.heap.size w w4) := below_from B3.out h4.out.2 B3.out.size))
        go_ret
        exact ⟨rfl, B4.out⟩
end Go.Proofs.Ytjgibngnjlciaaa
