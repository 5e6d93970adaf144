/-
  The reference's Earliest: the walk.
-/
import Derived.Test.YtkfpbpkadkhhnaaQj
namespace Go.Proofs.Ytkfpbpkadkhhnaa
open Go.RowKit Go.Maps Go.Sort

set_option maxHeartbeats 4000000 in
set_option maxRecDepth 100000 in
theorem rear_go {w : World} {rb : Nat} {C : V} {tv : Value} {T : List Opr} (h : RP w rb C tv T) (hO : RO C T) (a n : Int) (v : V) (hv : v.ok = true) (hr : rgE a n = true) :
    Calls Try.prog 21 #[.pointer (some ⟨rb, 0, none⟩), .int .i64 a, .int .i64 n, .agg #[.int .i64 v.a, .int .i64 v.b, .int .i64 v.c, .int .i64 v.d]] w fun e w' => (∃ t c : Int, e = .returned (.tuple #[.int .i64 t, .int .i64 c]) ∧ EarA C (fT C T) a n v t c) ∧ RowKit.Below w.heap.size w w' := by
  have H : Hid (∀ w, Calls Try.prog 10 #[.agg #[.int .i64 v.a, .int .i64 v.b, .int .i64 v.c, .int .i64 v.d]] w fun e w' => e = .returned (.bool true) ∧ RowKit.Below w.heap.size w w') := fun w => by have := rformed_V v w; rwa [hv] at this
  have HR : 0 ≤ a ∧ a ≤ 1099511627776 ∧ 1 ≤ n ∧ n ≤ 1099511627776 := of_decide_eq_true hr
  obtain ⟨a0, a1, n0, n1⟩ := HR
  have HE : Hid (∀ t c : Int, (if ¬ v.le C then t = 0 ∧ c = 7 else ∃ u, Ear (fT C T) a n v u ∧ (if 1099511627776 < u + n then t = 0 ∧ c = 2 else t = u ∧ c = 0)) → EarA C (fT C T) a n v t c) := fun t c q => by
    unfold EarA
    rw [if_neg (by simp [hv]), if_neg (by simp [hr])]
    exact q
  have HM : Hid (RP w rb C tv T) := h
  have HO : Hid (RO C T) := hO
  have hT4 := hO.n
  have b0 : ¬ a < 0 := by omega
  have b1' : ¬ 1099511627776 < a := by omega
  have b2' : ¬ n < 1 := by omega
  have b3' : ¬ 1099511627776 < n := by omega
  clear h hv hr hO
  go_enter Try.func21, Try.ntmps21
  go_wp2_with (go_at_call 10; refine (H.out _).mono ?_)
  first | rintro e w1 rfl b1 | rintro e w1 ⟨rfl, b1⟩
  have z1 : Bx w1 w.heap.size v := at_below b1 (by simp) new0
  have y1 : Hid (RowKit.Below w.heap.size w w1) := Below.trans (by go_grown) (b1.mono (by simp))
  obtain ⟨q0, q1, q2, q3, -⟩ := cells4 z1
  obtain ⟨m0, m1, m2, m3, -⟩ := (HM.out.below y1.out).cells
  clear H b1
  obtain ⟨bt, hbt⟩ : ∃ bt, bt = decide (v.le C) := ⟨_, rfl⟩
  have HT : Hid (bt = decide (v.le C)) := hbt
  have H16 : Hid (∀ W, RowKit.Below w1.heap.size w1 W → Calls Try.prog 16 #[.agg #[.int .i64 v.a, .int .i64 v.b, .int .i64 v.c, .int .i64 v.d], .agg #[.int .i64 C.a, .int .i64 C.b, .int .i64 C.c, .int .i64 C.d]] W fun e w2 => e = .returned (.bool bt) ∧ RowKit.Below W.heap.size W w2) := fun W _ => by
    have := rfits_V v C W
    rwa [← hbt] at this
  have G16 := grown H16
  have k0 := cell_regrown q0
  have k1 := cell_regrown q1
  have k2 := cell_regrown q2
  have k3 := cell_regrown q3
  have k4 := cell_regrown m0
  have k5 := cell_regrown m1
  have k6 := cell_regrown m2
  have k7 := cell_regrown m3
  clear hbt H16
  go_upto_region 5 with fail
  refine wp_region_quiet_below (by kernel_rfl) (by kernel_rfl) ?_
  repeat (first | go_big_quiet_step ((go_at_call 16; exact G16.out _ _)) | quiet_step ((go_at_call 16; exact G16.out _ _)))
  refine wpQuiet_nil ?_
  intro _ hw'
  obtain ⟨⟨dq, osq⟩, hw''⟩ := hw'
  subst hw''
  have h2 : Hid (RowKit.Below w.heap.size w (grow (redrawn w1 dq) osq) ∧ Bx (grow (redrawn w1 dq) osq) w.heap.size v) := ⟨y1.out.trans ((below_regrown w1 dq osq).mono y1.out.size), at_below (below_regrown w1 dq osq) (Nat.le_refl _) z1⟩
  clear k0 k1 k2 k3 k4 k5 k6 k7 q0 q1 q2 q3 m0 m1 m2 m3 G16 z1 y1
  generalize grow (redrawn w1 dq) osq = W2 at *
  cases bt
  · have hC : Hid (¬ v.le C) := of_decide_eq_false HT.out.symm
    go_wp2_with fail
    go_ret2
    exact ⟨⟨0, 7, rfl, HE.out _ _ (by rw [if_pos hC.out]; exact ⟨rfl, rfl⟩)⟩, h2.out.1⟩
  · have hC0 : v.le C := of_decide_eq_true HT.out.symm
    have hC : Hid (v.le C) := hC0
    clear hC0 HT
    go_upto_region 8 with fail
    have hb2 := h2.out.1
    obtain ⟨W3, hW3⟩ : ∃ W3, W3 = W2.alloc (.cells #[.int .i64 a] 2) := ⟨_, rfl⟩
    have hB3 : RowKit.Below w.heap.size w W3 := by rw [hW3]; exact hb2.alloc hb2.size _
    have z3 : Bx W3 w.heap.size v := by rw [hW3]; exact at_alloc h2.out.2
    have r3 : IRow w.heap.size W3 (.slice (some ⟨W2.heap.size, 0, none⟩) 1 1) [a] := by
      rw [hW3]
      exact ⟨rfl, .inr ⟨W2.heap.size, 1, #[.int .i64 a], rfl, hb2.size, new0, Nat.le_refl _, by unfold maxLen; omega, rfl, rfl⟩⟩
    have H26 : Hid (Calls Try.prog 26 #[.pointer (some ⟨rb, 0, none⟩)] W3 fun e w' => ∃ (p : Option Addr) (c : Nat) (E : List Int), e = .returned (.slice p E.length c) ∧ Hid (E2 w w' (.slice (some ⟨W2.heap.size, 0, none⟩) 1 1) [a] (.slice p E.length c) E v ∧ Ends T E)) := by
      refine (rends_any (HM.out.below hB3) HO.out.n).mono ?_
      rintro e w' ⟨p, c, E, rfl, k1, k2, k3⟩
      refine ⟨p, c, E, rfl, ⟨hB3.trans (k3.mono hB3.size), r3.below k3, ?_, at_below k3 (Nat.le_refl _) z3, fun g e e' => ?_⟩, k2⟩
      · refine ⟨k1.1, k1.2.imp id ?_⟩
        rintro ⟨g, cap, cur, e1, e2, e3⟩
        exact ⟨g, cap, cur, e1, Nat.le_trans hB3.size e2, e3⟩
      · have h7 := k1.ge e'
        have h8 : W2.heap.size = g := by injection e
        have h9 := r3.lt (g := W2.heap.size) rfl
        omega
    rw [← hW3]
    clear hW3 hB3 z3 r3 hb2 h2
    generalize W2.heap.size = lb at *
    go_upto_region 9 with (go_at_call 26; refine H26.out.mono ?_; rintro e w4 ⟨p, c, E, rfl, h4⟩)
    clear H26
    have HEn : Hid (Ends T E) := h4.out.2
    have hEl : E.length ≤ 8192 := by have := HEn.out.l; omega
    have HS0 : Hid (E2 w w4 (.slice (some ⟨lb, 0, none⟩) 1 1) (cnd a (E.take 0)) (.slice p E.length c) E v) := h4.out.1
    clear h4
    go_wp2_with fail
    go_loopw [10, 12] (fun t10 t12 wr => ∃ (i m : Nat) (g c' : Nat), t10 = .slice (some ⟨g, 0, none⟩) m c' ∧ t12 = .int .i64 i ∧ i ≤ E.length ∧ Hid (E2 w wr (.slice (some ⟨g, 0, none⟩) m c') (cnd a (E.take i)) (.slice p E.length c) E v ∧ m = (cnd a (E.take i)).length ∧ m ≤ i + 1)) (fun _ t12 _ => E.length - (intOf t12).toNat)
    case atStart => exact ⟨0, 1, lb, 1, rfl, rfl, Nat.zero_le _, HS0.out, rfl, Nat.le_refl _⟩
    case round =>
      clear HS0
      obtain ⟨i, m, g, c', rfl, rfl, hil, HI⟩ := hrel
      have hmi := HI.out.2.2
      by_cases hi : i < E.length
      · obtain ⟨x, hx⟩ : ∃ x, E[i]? = some x := ⟨_, List.getElem?_eq_getElem hi⟩
        obtain ⟨g9, c9, ep⟩ := HI.out.1.e.row (by omega)
        injection ep with ep ep2 ep3
        subst ep
        clear ep2 ep3
        have hi' : (i : Int) < (E.length : Int) := by omega
        have sx := HI.out.1.e.cell hx
        have hct := cnd_take (a := a) hx
        by_cases hax : a < x
        · rw [if_pos hax] at hct
          have Hct : Hid (cnd a (E.take (i + 1)) = cnd a (E.take i) ++ [x]) := hct
          have HO2 : Hid (E2 w (wr.alloc (.cells #[.int .i64 x] 2)) (.slice (some ⟨g, 0, none⟩) m c') (cnd a (E.take i)) (.slice (some ⟨g9, 0, none⟩) E.length c) E v) := HI.out.1.below ((Below.refl _ _).alloc (Nat.le_refl _) _)
          have HV : Hid ((wr.alloc (.cells #[.int .i64 x] 2)).cell? ⟨wr.heap.size, 0, none⟩ = some (.int .i64 x)) := by show World.cell? _ _ = _; rw [cell_of new0]; rfl
          have Hmm : Hid (m = (cnd a (E.take i)).length) := HI.out.2.1
          clear hct hx HI
          go_wp2_with (at_builtin; refine append_cnd (w := w) (wr := wr.alloc (.cells #[.int .i64 x] 2)) rfl _ _ rfl (some ⟨g, 0, none⟩) m c' (cnd a (E.take i)) (.slice (some ⟨g9, 0, none⟩) E.length c) E v x rfl Hmm.out HO2.out wr.heap.size 1 rfl HV.out (by omega) ?_; intro g3 c3 w3 h6)
          have HF : Hid (E2 w w3 (.slice (some ⟨g3, 0, none⟩) (m + 1) c3) (cnd a (E.take (i + 1))) (.slice (some ⟨g9, 0, none⟩) E.length c) E v ∧ m + 1 = (cnd a (E.take (i + 1))).length ∧ m + 1 ≤ i + 1 + 1) := by rw [Hct.out]; exact ⟨h6.out, by rw [List.length_append, ← Hmm.out]; rfl, by omega⟩
          refine ⟨⟨i + 1, m + 1, g3, c3, rfl, by simp, hi, HF.out⟩, ?_⟩
          simp [intOf]
          omega
        · rw [if_neg hax] at hct
          have HF : Hid (E2 w wr (.slice (some ⟨g, 0, none⟩) m c') (cnd a (E.take (i + 1))) (.slice (some ⟨g9, 0, none⟩) E.length c) E v ∧ m = (cnd a (E.take (i + 1))).length ∧ m ≤ i + 1 + 1) := by rw [hct]; exact ⟨HI.out.1, HI.out.2.1, by omega⟩
          clear hct hx HI
          go_wp2_with fail
          refine ⟨⟨i + 1, m, g, c', rfl, by simp, hi, HF.out⟩, ?_⟩
          simp [intOf]
          omega
      · have hi' : ¬ (i : Int) < (E.length : Int) := by omega
        obtain ⟨l, hl⟩ : ∃ l, l = cnd a E := ⟨_, rfl⟩
        have HL : Hid (l = cnd a E) := hl
        have HF : Hid (E2 w wr (.slice (some ⟨g, 0, none⟩) m c') l (.slice p E.length c) E v ∧ m = l.length) := by
          have h9 := HI.out
          rw [List.take_of_length_le (show E.length ≤ i by omega), ← hl] at h9
          exact ⟨h9.1, h9.2.1⟩
        have hm9 : m ≤ 10000 := by omega
        have HBd : Hid (∀ x ∈ l, 0 ≤ x ∧ x ≤ 1099511627776) := fun x hx => by
          rw [hl, cnd_mem] at hx
          rcases hx with rfl | ⟨hx, _⟩
          · exact ⟨a0, a1⟩
          · obtain ⟨o, ho, e⟩ := HEn.out.m x hx
            have h7 := spn_iff.1 (HO.out.a.ok o ho).2
            omega
        clear HI hl
        go_wp2_with fail
        go_loopw [13] (fun t13 wr => ∃ i : Nat, t13 = .int .i64 i ∧ i ≤ m ∧ Hid (E2 w wr (.slice (some ⟨g, 0, none⟩) m c') l (.slice p E.length c) E v ∧ m = l.length ∧ ∀ j, j < i → ¬ okc (fT C T) l n v j l.length)) (fun t13 _ => m - (intOf t13).toNat)
        case atStart => exact ⟨0, rfl, Nat.zero_le _, HF.out.1, HF.out.2, fun j hj => absurd hj (by omega)⟩
        case round =>
          clear HF hi' hi hil
          obtain ⟨i', rfl, him, HI⟩ := hrel
          have hne : i' ≠ m := fun e => by
            have h7 := HI.out.2.2 (m - 1) (by have := HI.out.2.1; have : 0 < l.length := by rw [HL.out]; simp [cnd]
                                              omega)
            refine h7 ?_
            rw [HI.out.2.1, HL.out]
            exact cnd_some HEn.out hC.out
          have hlt : i' < m := by omega
          have hlt' : (i' : Int) < (m : Int) := by omega
          obtain ⟨x, hx⟩ : ∃ x, l[i']? = some x := ⟨_, List.getElem?_eq_getElem (by have := HI.out.2.1; omega)⟩
          have hxb := HBd.out x (List.mem_of_getElem? hx)
          have sx := HI.out.1.l.cell hx
          obtain ⟨q0, q1, q2, q3, -⟩ := cells4 HI.out.1.b
          obtain ⟨z, hz⟩ : ∃ z, z = fT C T x := ⟨_, rfl⟩
          obtain ⟨bt, hbt⟩ : ∃ bt, bt = decide (v.le z) := ⟨_, rfl⟩
          have H24 : Hid (∀ W, RowKit.Below wr.heap.size wr W → Calls Try.prog 24 #[.pointer (some ⟨rb, 0, none⟩), .int .i64 x] W fun e w' => e = .returned (.agg #[.int .i64 z.a, .int .i64 z.b, .int .i64 z.c, .int .i64 z.d]) ∧ RowKit.Below W.heap.size W w') := fun W b => by
            have := rfree_any (HM.out.below (HI.out.1.bl.trans (b.mono HI.out.1.bl.size))) HO.out x
            rwa [← hz] at this
          have H16 : Hid (∀ W, RowKit.Below wr.heap.size wr W → Calls Try.prog 16 #[.agg #[.int .i64 v.a, .int .i64 v.b, .int .i64 v.c, .int .i64 v.d], .agg #[.int .i64 z.a, .int .i64 z.b, .int .i64 z.c, .int .i64 z.d]] W fun e w2 => e = .returned (.bool bt) ∧ RowKit.Below W.heap.size W w2) := fun W _ => by
            have := rfits_V v z W
            rwa [← hbt] at this
          have G24 := grown H24
          have G16 := grown H16
          have k0 := cell_regrown q0
          have k1 := cell_regrown q1
          have k2 := cell_regrown q2
          have k3 := cell_regrown q3
          have k4 := cell_regrown sx
          have HOK : Hid (bt = true ↔ okc (fT C T) l n v i' (i' + 1)) := by
            show _ ↔ _
            rw [okc_step hx hx (Nat.le_refl _), hbt, decide_eq_true_iff, hz]
            exact ⟨fun q => ⟨okc_self, .inr q⟩, fun q => q.2.resolve_left (by omega)⟩
          have Hx9 : Hid (l[i']? = some x) := hx
          clear hz hbt H24 H16 hne hx
          go_upto_region 17 with fail
          refine wp_region_quiet_below (by kernel_rfl) (by kernel_rfl) ?_
          repeat (first | go_big_quiet_step (first | (go_at_call 24; exact G24.out _ _) | (go_at_call 16; exact G16.out _ _)) | quiet_step (first | (go_at_call 24; exact G24.out _ _) | (go_at_call 16; exact G16.out _ _)))
          refine wpQuiet_nil ?_
          intro _ hw'
          obtain ⟨⟨dq, osq⟩, hw''⟩ := hw'
          subst hw''
          have HJ0 : Hid (E2 w (grow (redrawn wr dq) osq) (.slice (some ⟨g, 0, none⟩) m c') l (.slice p E.length c) E v ∧ (bt = true ↔ okc (fT C T) l n v i' (i' + 1))) := ⟨HI.out.1.below (below_regrown wr dq osq), HOK.out⟩
          have HNo : Hid (m = l.length ∧ ∀ j, j < i' → ¬ okc (fT C T) l n v j l.length) := HI.out.2
          clear k0 k1 k2 k3 k4 q0 q1 q2 q3 G24 G16 sx HI HOK
          generalize grow (redrawn wr dq) osq = W5 at *
          go_wp2_with fail
          go_loopw [14, 15] (fun t14 t15 wr => ∃ (bt : Bool) (k : Nat), t14 = .bool bt ∧ t15 = .int .i64 k ∧ i' < k ∧ k ≤ m ∧ Hid (E2 w wr (.slice (some ⟨g, 0, none⟩) m c') l (.slice p E.length c) E v ∧ (bt = true ↔ okc (fT C T) l n v i' k))) (fun _ t15 _ => m - (intOf t15).toNat)
          case atStart => exact ⟨bt, i' + 1, rfl, by simp, by omega, by omega, HJ0.out⟩
          case round =>
            clear HJ0
            obtain ⟨b9, k, rfl, rfl, hik, hkm, HK⟩ := hrel
            have hxn : IntKind.i64.wrap (x + n) = x + n := by rw [IntKind.wrap_i64]; omega
            by_cases hk : k = m
            · have hkm' : ¬ (k : Int) < (m : Int) := by omega
              have hkm2 : decide ((k : Int) < (m : Int)) = false := decide_eq_false hkm'
              cases b9
              · clear hk
                have HF2 : Hid (E2 w wr (.slice (some ⟨g, 0, none⟩) m c') l (.slice p E.length c) E v ∧ m = l.length ∧ ∀ j, j < i' + 1 → ¬ okc (fT C T) l n v j l.length) := ⟨HK.out.1, HNo.out.1, fun j hj => by
                  by_cases e : j = i'
                  · subst e
                    intro q
                    have h7 := HK.out.2.2 (fun j x' y' q1 q2 q3 q4 q5 => q j x' y' q1 q2 q3 (by have := HNo.out.1; omega) q5)
                    cases h7
                  · exact HNo.out.2 j (by omega)⟩
                clear HK
                go_wp2_with fail
                refine ⟨⟨i' + 1, by simp, hlt, HF2.out⟩, ?_⟩
                simp [intOf]
                omega
              · have HEA : Hid (Ear (fT C T) a n v x) := by
                  have h7 := HK.out.2.1 rfl
                  rw [hk, HNo.out.1] at h7
                  have h8 := HNo.out.2
                  have h9 := Hx9.out
                  rw [HL.out] at h7 h8 h9
                  exact cnd_ear HEn.out n0 h9 h7 h8
                have sx := HK.out.1.l.cell Hx9.out
                have HBf : Hid (RowKit.Below w.heap.size w wr) := HK.out.1.bl
                clear hk HK
                by_cases hm : 1099511627776 < x + n
                · go_wp2_with fail
                  go_ret2
                  exact ⟨⟨0, 2, rfl, HE.out _ _ (by rw [if_neg (fun q => q hC.out)]; exact ⟨x, HEA.out, by rw [if_pos hm]; exact ⟨rfl, rfl⟩⟩)⟩, HBf.out⟩
                · go_wp2_with fail
                  go_ret2
                  exact ⟨⟨x, 0, rfl, HE.out _ _ (by rw [if_neg (fun q => q hC.out)]; exact ⟨x, HEA.out, by rw [if_neg (by omega)]; exact ⟨rfl, rfl⟩⟩)⟩, HBf.out⟩
            · have hklt : k < m := by omega
              have hk2 : (k : Int) < (m : Int) := by omega
              have hk3 : decide ((k : Int) < (m : Int)) = true := decide_eq_true hk2
              cases b9
              · clear hk
                have HF2 : Hid (E2 w wr (.slice (some ⟨g, 0, none⟩) m c') l (.slice p E.length c) E v ∧ m = l.length ∧ ∀ j, j < i' + 1 → ¬ okc (fT C T) l n v j l.length) := ⟨HK.out.1, HNo.out.1, fun j hj => by
                  by_cases e : j = i'
                  · subst e
                    intro q
                    have h7 := HK.out.2.2 (fun j x' y' q1 q2 q3 q4 q5 => q j x' y' q1 q2 q3 (by have := HNo.out.1; omega) q5)
                    cases h7
                  · exact HNo.out.2 j (by omega)⟩
                clear HK
                go_wp2_with fail
                refine ⟨⟨i' + 1, by simp, hlt, HF2.out⟩, ?_⟩
                simp [intOf]
                omega
              · obtain ⟨y, hy⟩ : ∃ y, l[k]? = some y := ⟨_, List.getElem?_eq_getElem (by have := HNo.out.1; omega)⟩
                have sx := HK.out.1.l.cell Hx9.out
                have sy := HK.out.1.l.cell hy
                obtain ⟨q0, q1, q2, q3, -⟩ := cells4 HK.out.1.b
                obtain ⟨z', hz'⟩ : ∃ z', z' = fT C T y := ⟨_, rfl⟩
                obtain ⟨b8, hb8⟩ : ∃ b8, b8 = decide (v.le z') := ⟨_, rfl⟩
                have H24 : Hid (∀ W, RowKit.Below wr.heap.size wr W → Calls Try.prog 24 #[.pointer (some ⟨rb, 0, none⟩), .int .i64 y] W fun e w' => e = .returned (.agg #[.int .i64 z'.a, .int .i64 z'.b, .int .i64 z'.c, .int .i64 z'.d]) ∧ RowKit.Below W.heap.size W w') := fun W b => by
                  have := rfree_any (HM.out.below (HK.out.1.bl.trans (b.mono HK.out.1.bl.size))) HO.out y
                  rwa [← hz'] at this
                have H16 : Hid (∀ W, RowKit.Below wr.heap.size wr W → Calls Try.prog 16 #[.agg #[.int .i64 v.a, .int .i64 v.b, .int .i64 v.c, .int .i64 v.d], .agg #[.int .i64 z'.a, .int .i64 z'.b, .int .i64 z'.c, .int .i64 z'.d]] W fun e w2 => e = .returned (.bool b8) ∧ RowKit.Below W.heap.size W w2) := fun W _ => by
                  have := rfits_V v z' W
                  rwa [← hb8] at this
                have G24 := grown H24
                have G16 := grown H16
                have k0 := cell_regrown q0
                have k1 := cell_regrown q1
                have k2 := cell_regrown q2
                have k3 := cell_regrown q3
                have k4 := cell_regrown sx
                have k5 := cell_regrown sy
                have HST := okc_step (f := fT C T) (n := n) (v := v) Hx9.out hy (show i' ≤ k by omega)
                by_cases hxy : x + n ≤ y
                · have HN : Hid (∀ W, RowKit.Below wr.heap.size wr W → E2 w W (.slice (some ⟨g, 0, none⟩) m c') l (.slice p E.length c) E v ∧ (true = true ↔ okc (fT C T) l n v i' (k + 1))) := fun W b => ⟨HK.out.1.below b, by rw [HST]; exact ⟨fun _ => ⟨HK.out.2.1 rfl, .inl hxy⟩, fun _ => rfl⟩⟩
                  have hd : decide (x + n ≤ y) = true := decide_eq_true hxy
                  clear HST H24 H16 hz' hb8 hy HK hk
                  go_upto_region 21 with fail
                  refine wp_region_quiet_below (by kernel_rfl) (by kernel_rfl) ?_
                  repeat (first | go_big_quiet_step (first | (go_at_call 24; exact G24.out _ _) | (go_at_call 16; exact G16.out _ _)) | quiet_step (first | (go_at_call 24; exact G24.out _ _) | (go_at_call 16; exact G16.out _ _)))
                  refine wpQuiet_nil ?_
                  intro _ hw'
                  obtain ⟨⟨dq, osq⟩, hw''⟩ := hw'
                  subst hw''
                  have HN2 := (show Hid (E2 w (grow (redrawn wr dq) osq) (.slice (some ⟨g, 0, none⟩) m c') l (.slice p E.length c) E v ∧ (true = true ↔ okc (fT C T) l n v i' (k + 1))) from HN.out _ (below_regrown wr dq osq))
                  clear k0 k1 k2 k3 k4 k5 q0 q1 q2 q3 sx sy G24 G16 HN
                  generalize grow (redrawn wr dq) osq = W6 at *
                  go_wp2_with fail
                  refine ⟨⟨true, k + 1, rfl, by simp, by omega, hklt, HN2.out⟩, ?_⟩
                  simp [intOf]
                  omega
                · have HN : Hid (∀ W, RowKit.Below wr.heap.size wr W → E2 w W (.slice (some ⟨g, 0, none⟩) m c') l (.slice p E.length c) E v ∧ (b8 = true ↔ okc (fT C T) l n v i' (k + 1))) := fun W b => ⟨HK.out.1.below b, by rw [HST, hb8, decide_eq_true_iff, hz']; exact ⟨fun q => ⟨HK.out.2.1 rfl, .inr q⟩, fun q => q.2.resolve_left hxy⟩⟩
                  have hd : decide (x + n ≤ y) = false := decide_eq_false hxy
                  clear HST H24 H16 hz' hb8 hy HK hk
                  go_upto_region 21 with fail
                  refine wp_region_quiet_below (by kernel_rfl) (by kernel_rfl) ?_
                  repeat (first | go_big_quiet_step (first | (go_at_call 24; exact G24.out _ _) | (go_at_call 16; exact G16.out _ _)) | quiet_step (first | (go_at_call 24; exact G24.out _ _) | (go_at_call 16; exact G16.out _ _)))
                  refine wpQuiet_nil ?_
                  intro _ hw'
                  obtain ⟨⟨dq, osq⟩, hw''⟩ := hw'
                  subst hw''
                  have HN2 := (show Hid (E2 w (grow (redrawn wr dq) osq) (.slice (some ⟨g, 0, none⟩) m c') l (.slice p E.length c) E v ∧ (b8 = true ↔ okc (fT C T) l n v i' (k + 1))) from HN.out _ (below_regrown wr dq osq))
                  clear k0 k1 k2 k3 k4 k5 q0 q1 q2 q3 sx sy G24 G16 HN
                  generalize grow (redrawn wr dq) osq = W6 at *
                  go_wp2_with fail
                  refine ⟨⟨b8, k + 1, rfl, by simp, by omega, hklt, HN2.out⟩, ?_⟩
                  simp [intOf]
                  omega
end Go.Proofs.Ytkfpbpkadkhhnaa
