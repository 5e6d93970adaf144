/-
  The law FillWaits.
-/
import Derived.Test.YtjgibngnjlciaaaHj
namespace Go.Proofs.Ytjgibngnjlciaaa
open Go.RowKit Go.Maps

set_option maxHeartbeats 4000000 in
set_option maxRecDepth 100000 in
theorem waits_law (now rt : Int) (qH qL qv r : Option Addr) (nH cH nL cL nv cv m d : Nat) (T U : List V) (L : List Vi) (S : List Sl) (w : World) (hA : LwA w now rt qH nH cH T qL nL cL U qv nv L r m d S) (hcq : qv = none → cv = 0) :
    Calls Try.prog 4 #[xA now rt qH nH cH qL nL cL, .slice qv nv cv, .slice r m d] w fun e w' => e = .returned (.bool true) ∧ Below w.heap.size w w' := by
  have H7 : Hid (∀ W, Calls Try.prog 7 #[] W fun e w' => e = .returned (.bool true) ∧ Below W.heap.size W w') := awake18
  have H8 : Hid (∀ W, Below w.heap.size w W → Calls Try.prog 8 #[xA now rt qH nH cH qL nL cL, .slice qv nv cv, .slice r m d] W fun e w' => e = .returned (.bool (fewV nH nL L m)) ∧ Hid (Below W.heap.size W w')) := hA.few cv
  have HA : Hid (LwA w now rt qH nH cH T qL nL cL U qv nv L r m d S) := hA
  have HCQ : Hid (qv = none → cv = 0) := hcq
  clear hA hcq
  have B0 : Hid (Below w.heap.size w (w.alloc (.cells #[.int .i64 now, .int .i64 rt, .slice qH nH cH, .slice qL nL cL] 24))) := (Below.refl _ w).alloc (Nat.le_refl _) _
  have HN : Hid ((w.alloc (.cells #[.int .i64 now, .int .i64 rt, .slice qH nH cH, .slice qL nL cL] 24)).heap[w.heap.size]? = some (.cells #[.int .i64 now, .int .i64 rt, .slice qH nH cH, .slice qL nL cL] 24)) := new0
  cases hf : fewV nH nL L m with
  | false =>
    rw [hf] at H8
    clear hf HCQ
    go_enter Try.func4, Try.ntmps4
    go_upto_region 1 with fail
    generalize w.alloc (.cells #[.int .i64 now, .int .i64 rt, .slice qH nH cH, .slice qL nL cL] 24) = W at *
    go_upto_region 2 with (first | (go_at_call 7; refine (H7.out _).mono ?_; rintro e w1 ⟨rfl, b1⟩; have B1 : Hid (Below w.heap.size w w1) := below_from B0.out b1 B0.out.size; have z1 := at_below b1 (Nat.le_refl _) HN.out; have c0 := Lib.cell_of_heap z1 0; have c1 := Lib.cell_of_heap z1 1; have c2 := Lib.cell_of_heap z1 2; have c3 := Lib.cell_of_heap z1 3; clear z1) | (go_at_call 8; refine (H8.out _ B1.out).mono ?_; rintro e w2 ⟨rfl, b2⟩))
    have B2 : Hid (Below w.heap.size w w2) := below_from B1.out b2.out B1.out.size
    clear c0 c1 c2 c3 b1 b2
    go_wp2_with (go_at_call 7; refine (H7.out _).mono ?_; rintro e w3 ⟨rfl, b3⟩)
    go_ret
    exact ⟨rfl, below_from B2.out b3 B2.out.size⟩
  | true =>
    have HG := HA.out.st hf
    obtain ⟨f1, f2, f3, f4, f5⟩ := fewV_le hf
    have HS : Hid (StG w qH nH cH qv nv r m d T L S) := HG
    have hnow : in64 now := HA.out.n
    have hnv : nv ≤ 30 := by have := HA.out.vl; omega
    have HU : Hid (TA w qL U ∧ U.length = nL ∧ nL ≤ 1000000 ∧ (qL = none → cL = 0)) := ⟨HA.out.t2, HA.out.tn2, by omega, HA.out.ct2⟩
    have hU20 : nL ≤ 100 := f3
    obtain ⟨σ, hσ⟩ : ∃ σ, admitR now rt T U L S = σ := ⟨_, rfl⟩
    have H14 : Hid (∀ W, Below w.heap.size w W → Calls Try.prog 14 #[.int .i64 now, .slice qH nH cH, .slice qL nL cL, .int .i64 rt, .slice qv nv cv, .slice r m d] W (AdP W σ)) := fun W b => by
      have := admit_any now rt qH qL qv r nH cH nL cL nv cv m d T U L S W (HS.out.below b) ⟨HU.out.1.below b, HU.out.2⟩ (by omega) HCQ hnow
      rw [hσ] at this
      exact this
    rw [hf] at H8
    clear hf HG f1 f2 f3 f4
    obtain ⟨N, ok, er⟩ := σ
    cases ok with
    | false =>
      obtain rfl : N = [] := by
        have h1 := admit_no (now := now) (rt := rt) (T := T) (U := U) (R := L) (S := S) (by rw [hσ])
        rw [hσ] at h1
        exact h1
      clear hσ HU HCQ
      have he : er = 0 ∨ (((er : Int) == 0) = false ∧ ((er : Int) != 0) = true ∧ ¬ (er : Int) = 0) := by
        by_cases h0 : er = 0
        · exact .inl h0
        · have g0 : ¬ (er : Int) = 0 := by omega
          exact .inr ⟨by simpa using g0, i64_ne g0, g0⟩
      rcases he with rfl | ⟨g1, g2, g0⟩
      all_goals
        go_enter Try.func4, Try.ntmps4
        go_upto_region 1 with fail
        generalize w.alloc (.cells #[.int .i64 now, .int .i64 rt, .slice qH nH cH, .slice qL nL cL] 24) = W at *
        go_upto_region 3 with (first | (go_at_call 7; refine (H7.out _).mono ?_; rintro e w1 ⟨rfl, b1⟩; have B1 : Hid (Below w.heap.size w w1 ∧ Below W.heap.size W w1) := ⟨below_from B0.out b1 B0.out.size, b1⟩; have z1 := at_below b1 (Nat.le_refl _) HN.out; have c0 := Lib.cell_of_heap z1 0; have c1 := Lib.cell_of_heap z1 1; have c2 := Lib.cell_of_heap z1 2; have c3 := Lib.cell_of_heap z1 3; clear z1 b1) | (go_at_call 8; refine (H8.out _ B1.out.1).mono ?_; rintro e w2 ⟨rfl, b2⟩))
        have B2 : Hid (Below w.heap.size w w2 ∧ w2.heap[w.heap.size]? = some (.cells #[.int .i64 now, .int .i64 rt, .slice qH nH cH, .slice qL nL cL] 24)) := ⟨below_from B1.out.1 b2.out B1.out.1.size, at_below (below_from B1.out.2 b2.out B1.out.2.size) (Nat.le_refl _) HN.out⟩
        clear c0 c1 c2 c3 b2 B1 H7 H8
        have c0 := Lib.cell_of_heap B2.out.2 0
        have c1 := Lib.cell_of_heap B2.out.2 1
        have c2 := Lib.cell_of_heap B2.out.2 2
        have c3 := Lib.cell_of_heap B2.out.2 3
        go_wp2_with (go_at_call 14; refine (H14.out _ B2.out.1).mono ?_; rintro e w3 ⟨p3, k3, c3', rfl, n3, -, h3⟩; obtain rfl : 0 = k3 := n3; have B3 : Hid (Below w.heap.size w w3) := below_from B2.out.1 h3.out.2 B2.out.1.size; clear H14 c0 c1 c2 c3)
        go_ret
        exact ⟨rfl, B3.out⟩
    | true =>
      obtain ⟨hff, hs, hx6, hw, r1, r2, r3⟩ := admit_yes (now := now) (rt := rt) (T := T) (U := U) (R := L) (S := S) (by rw [hσ])
      rw [hσ] at hs
      obtain ⟨hM, e2⟩ : N = (fitR U S).2 ∧ (true, er) = (true, 0) := by injection hs with a b; exact ⟨a, b⟩
      obtain rfl : er = 0 := by injection e2
      have hback := fit_back hff
      have hshort := fit_short HS.out.s.h hff
      have hlen : N.length = U.length := by
        rw [hM]
        exact (fit_room hff).2.1
      rw [← hM] at hback hshort hw
      obtain ⟨t, ht⟩ : ∃ t, (startR now T L S).1 = t := ⟨_, rfl⟩
      obtain ⟨x, hx⟩ : ∃ x, (startR now T L S).2.2 = x := ⟨_, rfl⟩
      have hn1 : -9223372036854775808 ≤ now := hnow.1
      have HV : Hid (∀ w1 p k c, Below w.heap.size w w1 → NA w1 p N → N.length = k → (p = none → c = 0) → (⟨1, now + rt, qL, nL, cL, p, k, c, U, N⟩ : Vi).ok w1) := fun w1 p k c b hN hk hc => by
        obtain ⟨u1, u2, u3, u4⟩ := HU.out
        refine ⟨(by show in64 1; decide), (by show in64 (now + rt); unfold in64; omega), u1.below b, u4, u2, hN, hc, hk, hshort, u3, ?_⟩
        show k ≤ 1000000
        omega
      have H9 : Hid (∀ W, Below w.heap.size w W → Calls Try.prog 9 #[.int .i64 now, .slice qH nH cH, .slice qv nv cv, .slice r m d] W fun e w' => ∃ p k c, e = .returned (.tuple #[.int .i64 t, .slice p k c, .int .i64 (x : Nat)]) ∧ Hid (Below W.heap.size W w')) := fun W b => (start_any now qH qv r nH cH nv cv m d T L S W (HS.out.below b)).mono fun e w' ⟨p, k, c, e1, _, _, e4⟩ => by
        rw [ht, hx] at e1; exact ⟨p, k, c, e1, e4.out.2⟩
      have H15 : Hid (∀ W p k c, Below w.heap.size w W → NA W p N → N.length = k → (p = none → c = 0) → Calls Try.prog 15 #[.slice qL nL cL, .slice p k c, .slice r m d] W fun e w' => ∃ p' c', e = .returned (.tuple #[.slice p' m c', .int .i64 0]) ∧ Hid (SlS w' p' m c' (movR subR U N S).2 ∧ Below W.heap.size W w')) := fun W p k c b hN hk hc => after_sl (HV.out W p k c b hN hk hc) (HS.out.s.below b) hback.1 (by omega)
      have H9' : Hid (x = 0 → ∀ W p3 k3 c3 q p' c c', Below w.heap.size w W → NA W p3 N → N.length = k3 → (p3 = none → c3 = 0) → VA W q (L ++ [⟨1, now + rt, qL, nL, cL, p3, k3, c3, U, N⟩]) → SlS W p' m c' (movR subR U N S).2 → Calls Try.prog 9 #[.int .i64 now, .slice qH nH cH, .slice q (nv + 1) c, .slice p' m c'] W fun e w' => ∃ p k c, e = .returned (.tuple #[.int .i64 t, .slice p k c, .int .i64 0]) ∧ Hid (Below W.heap.size W w')) := fun h0 W p3 k3 c3 q p' c c' b hN hk hc hva hsl => by
        have g0 := HS.out.below b
        obtain ⟨y1, y2⟩ := hw (hx.trans h0)
        rw [ht] at y2
        refine (start_any now qH q p' nH cH (nv + 1) c m c' T (L ++ [⟨1, now + rt, qL, nL, cL, p3, k3, c3, U, N⟩]) _ W ⟨g0.t, g0.lt, hsl, hva, fun u hu => ?_, by rw [List.length_append, g0.lr]; rfl, g0.n1, by omega, g0.n3, g0.ct⟩).mono ?_
        · rcases List.mem_append.1 hu with q | q
          · exact g0.o u q
          · rw [List.mem_singleton.1 q]; exact HV.out W p3 k3 c3 b hN hk hc
        · rintro e w' ⟨p, k, c, e1, _, _, h4⟩
          have e3 := start_last now T L (movR subR U N S).2 (v := ⟨1, now + rt, qL, nL, cL, p3, k3, c3, U, N⟩) (u := ahV now rt U N) rfl rfl rfl
          rw [e3] at e1
          have e4 : startR now T (L ++ [ahV now rt U N]) (movR subR U N S).2 = withR now rt T U N L S := rfl
          rw [e4, y1, y2] at e1
          exact ⟨p, k, c, e1, h4.out.2⟩
      rw [hx] at hx6
      have HLL : Hid (L.length = nv ∧ VA w qv L) := ⟨HA.out.vl, HA.out.v⟩
      clear hσ hs e2 hw hback hshort hff hM ht hx HU HA HS f5 hlen
      rcases hx6 with rfl | rfl
      · have H9z : Hid _ := H9'.out rfl
        clear H9'
        go_enter Try.func4, Try.ntmps4
        go_upto_region 1 with fail
        generalize w.alloc (.cells #[.int .i64 now, .int .i64 rt, .slice qH nH cH, .slice qL nL cL] 24) = W at *
        go_upto_region 3 with (first | (go_at_call 7; refine (H7.out _).mono ?_; rintro e w1 ⟨rfl, b1⟩; have B1 : Hid (Below w.heap.size w w1 ∧ Below W.heap.size W w1) := ⟨below_from B0.out b1 B0.out.size, b1⟩; have z1 := at_below b1 (Nat.le_refl _) HN.out; have c0 := Lib.cell_of_heap z1 0; have c1 := Lib.cell_of_heap z1 1; have c2 := Lib.cell_of_heap z1 2; have c3 := Lib.cell_of_heap z1 3; clear z1 b1) | (go_at_call 8; refine (H8.out _ B1.out.1).mono ?_; rintro e w2 ⟨rfl, b2⟩))
        have B2 : Hid (Below w.heap.size w w2 ∧ w2.heap[w.heap.size]? = some (.cells #[.int .i64 now, .int .i64 rt, .slice qH nH cH, .slice qL nL cL] 24)) := ⟨below_from B1.out.1 b2.out B1.out.1.size, at_below (below_from B1.out.2 b2.out B1.out.2.size) (Nat.le_refl _) HN.out⟩
        clear c0 c1 c2 c3 b2 B1 H7 H8
        have c0 := Lib.cell_of_heap B2.out.2 0
        have c1 := Lib.cell_of_heap B2.out.2 1
        have c2 := Lib.cell_of_heap B2.out.2 2
        have c3 := Lib.cell_of_heap B2.out.2 3
        go_upto_region 4 with (go_at_call 14; refine (H14.out _ B2.out.1).mono ?_; rintro e w3 ⟨p3, k3, c3', rfl, n3, m3, h3⟩)
        have B3 : Hid (Below w.heap.size w w3 ∧ w3.heap[w.heap.size]? = some (.cells #[.int .i64 now, .int .i64 rt, .slice qH nH cH, .slice qL nL cL] 24) ∧ NA w3 p3 N) := ⟨below_from B2.out.1 h3.out.2 B2.out.1.size, at_below h3.out.2 (Nat.le_refl _) B2.out.2, h3.out.1⟩
        clear c0 c1 c2 c3 B2 h3 H14
        have c0 := Lib.cell_of_heap B3.out.2.1 0
        have c1 := Lib.cell_of_heap B3.out.2.1 1
        have c2 := Lib.cell_of_heap B3.out.2.1 2
        have c3 := Lib.cell_of_heap B3.out.2.1 3
        go_upto_region 7 with (go_at_call 15; refine (H15.out _ _ _ _ B3.out.1 B3.out.2.2 n3 m3).mono ?_; rintro e w4 ⟨p4, c4, rfl, h4⟩)
        have B4 : Hid (Below w.heap.size w w4 ∧ w4.heap[w.heap.size]? = some (.cells #[.int .i64 now, .int .i64 rt, .slice qH nH cH, .slice qL nL cL] 24) ∧ NA w4 p3 N ∧ SlS w4 p4 m c4 (movR subR U N S).2) := ⟨below_from B3.out.1 h4.out.2 B3.out.1.size, at_below h4.out.2 (Nat.le_refl _) B3.out.2.1, B3.out.2.2.below h4.out.2, h4.out.1⟩
        clear c0 c1 c2 c3 B3 h4 H15
        have c0 := Lib.cell_of_heap B4.out.2.1 0
        have c1 := Lib.cell_of_heap B4.out.2.1 1
        have c2 := Lib.cell_of_heap B4.out.2.1 2
        have c3 := Lib.cell_of_heap B4.out.2.1 3
        go_upto_region 10 with (go_at_call 9; refine (H9.out _ B4.out.1).mono ?_; rintro e w5 ⟨p5, k5, c5, rfl, b5⟩)
        have B5 : Hid (Below w.heap.size w w5 ∧ w5.heap[w.heap.size]? = some (.cells #[.int .i64 now, .int .i64 rt, .slice qH nH cH, .slice qL nL cL] 24) ∧ NA w5 p3 N ∧ SlS w5 p4 m c4 (movR subR U N S).2) := ⟨below_from B4.out.1 b5.out B4.out.1.size, at_below b5.out (Nat.le_refl _) B4.out.2.1, B4.out.2.2.1.below b5.out, B4.out.2.2.2.below b5.out⟩
        clear c0 c1 c2 c3 B4 b5 H9
        go_upto_region 13 with fail
        have hva : VA w5 qv L := HLL.out.2.below B5.out.1
        go_upto_region 14 with (at_builtin; refine append_ga (B := w5.heap.size) viC_len viC_one Try.underlying25 info44r rfl (by decide) rfl _ _ rfl none 0 0 [] rfl (GRow.nil _ _ _ _ _) (Nat.le_refl _) qv nv cv L rfl HLL.out.1 hva HCQ.out (by unfold maxLen; omega) (by omega) ?_; intro p6 c6 w6 hr6 hb6)
        rw [List.nil_append, Nat.zero_add] at hr6
        have B6 : Hid (Below w5.heap.size w5 w6 ∧ GRow 44 4 viC w5.heap.size w6 (.slice p6 nv c6) L ∧ w6.heap[w.heap.size]? = some (.cells #[.int .i64 now, .int .i64 rt, .slice qH nH cH, .slice qL nL cL] 24)) := ⟨hb6, hr6, at_below hb6 (Nat.le_refl _) B5.out.2.1⟩
        clear hva hr6 hb6
        have c0 := Lib.cell_of_heap B6.out.2.2 0
        have c1 := Lib.cell_of_heap B6.out.2.2 1
        have c2 := Lib.cell_of_heap B6.out.2.2 2
        have c3 := Lib.cell_of_heap B6.out.2.2 3
        have B7 : Hid (Below w6.heap.size w6 (w6.alloc (.cells #[.int .i64 1, .int .i64 (now + rt), .slice qL nL cL, .slice p3 k3 c3'] 44))) := (Below.refl _ _).alloc (Nat.le_refl _) _
        have hr7 := B6.out.2.1.below B7.out
        have hs7 : w5.heap.size ≤ (w6.alloc (.cells #[.int .i64 1, .int .i64 (now + rt), .slice qL nL cL, .slice p3 k3 c3'] 44)).heap.size := Nat.le_trans B6.out.1.size B7.out.size
        have hv7 : VA (w6.alloc (.cells #[.int .i64 1, .int .i64 (now + rt), .slice qL nL cL, .slice p3 k3 c3'] 44)) (some ⟨w6.heap.size, 0, none⟩) [⟨1, now + rt, qL, nL, cL, p3, k3, c3', U, N⟩] := fun i a ha => by
          have hr : (w6.alloc (.cells #[.int .i64 1, .int .i64 (now + rt), .slice qL nL cL, .slice p3 k3 c3'] 44)).heap[w6.heap.size]? = some (.cells #[.int .i64 1, .int .i64 (now + rt), .slice qL nL cL, .slice p3 k3 c3'] 44) := new0
          match i, ha with
          | 0, ha =>
            cases ha
            refine ⟨_, 0, rfl, fun j u hu => ?_⟩
            match j, hu with
            | 0, hu => cases hu; exact Lib.cell_of_heap hr 0
            | 1, hu => cases hu; exact Lib.cell_of_heap hr 1
            | 2, hu => cases hu; exact Lib.cell_of_heap hr 2
            | 3, hu => cases hu; exact Lib.cell_of_heap hr 3
        go_upto_region 15 with (at_builtin; refine append_ga (B := w5.heap.size) viC_len viC_one Try.underlying25 info44r rfl (by decide) rfl _ _ rfl p6 nv c6 L rfl hr7 hs7 (some ⟨w6.heap.size, 0, none⟩) 1 1 [⟨1, now + rt, qL, nL, cL, p3, k3, c3', U, N⟩] rfl rfl hv7 nofun (by unfold maxLen; omega) (by omega) ?_; intro p8 c8 w8 hr8 hb8)
        have B8 : Hid (Below w.heap.size w w8 ∧ w8.heap[w.heap.size]? = some (.cells #[.int .i64 now, .int .i64 rt, .slice qH nH cH, .slice qL nL cL] 24) ∧ NA w8 p3 N ∧ SlS w8 p4 m c4 (movR subR U N S).2 ∧ VA w8 p8 (L ++ [⟨1, now + rt, qL, nL, cL, p3, k3, c3', U, N⟩])) := by
          have b : Below w5.heap.size w5 w8 := (below_from B6.out.1 B7.out B6.out.1.size).trans hb8
          exact ⟨below_from B5.out.1 b B5.out.1.size, at_below b (Nat.le_refl _) B5.out.2.1, B5.out.2.2.1.below b, B5.out.2.2.2.below b, hr8.ga viC_len⟩
        clear c0 c1 c2 c3 hr7 hs7 hv7 hr8 hb8 B7 B6
        have c0 := Lib.cell_of_heap B8.out.2.1 0
        have c2 := Lib.cell_of_heap B8.out.2.1 2
        go_wp2_with (go_at_call 9; refine (H9z.out _ _ _ _ _ _ _ _ B8.out.1 B8.out.2.2.1 n3 m3 B8.out.2.2.2.2 B8.out.2.2.2.1).mono ?_; rintro e w9 ⟨p9, k9, c9, rfl, b9⟩)
        go_ret
        exact ⟨rfl, below_from B8.out.1 b9.out B8.out.1.size⟩
      · clear H9' HCQ HLL
        go_enter Try.func4, Try.ntmps4
        go_upto_region 1 with fail
        generalize w.alloc (.cells #[.int .i64 now, .int .i64 rt, .slice qH nH cH, .slice qL nL cL] 24) = W at *
        go_upto_region 3 with (first | (go_at_call 7; refine (H7.out _).mono ?_; rintro e w1 ⟨rfl, b1⟩; have B1 : Hid (Below w.heap.size w w1 ∧ Below W.heap.size W w1) := ⟨below_from B0.out b1 B0.out.size, b1⟩; have z1 := at_below b1 (Nat.le_refl _) HN.out; have c0 := Lib.cell_of_heap z1 0; have c1 := Lib.cell_of_heap z1 1; have c2 := Lib.cell_of_heap z1 2; have c3 := Lib.cell_of_heap z1 3; clear z1 b1) | (go_at_call 8; refine (H8.out _ B1.out.1).mono ?_; rintro e w2 ⟨rfl, b2⟩))
        have B2 : Hid (Below w.heap.size w w2 ∧ w2.heap[w.heap.size]? = some (.cells #[.int .i64 now, .int .i64 rt, .slice qH nH cH, .slice qL nL cL] 24)) := ⟨below_from B1.out.1 b2.out B1.out.1.size, at_below (below_from B1.out.2 b2.out B1.out.2.size) (Nat.le_refl _) HN.out⟩
        clear c0 c1 c2 c3 b2 B1 H7 H8
        have c0 := Lib.cell_of_heap B2.out.2 0
        have c1 := Lib.cell_of_heap B2.out.2 1
        have c2 := Lib.cell_of_heap B2.out.2 2
        have c3 := Lib.cell_of_heap B2.out.2 3
        go_upto_region 4 with (go_at_call 14; refine (H14.out _ B2.out.1).mono ?_; rintro e w3 ⟨p3, k3, c3', rfl, n3, m3, h3⟩)
        have B3 : Hid (Below w.heap.size w w3 ∧ w3.heap[w.heap.size]? = some (.cells #[.int .i64 now, .int .i64 rt, .slice qH nH cH, .slice qL nL cL] 24) ∧ NA w3 p3 N) := ⟨below_from B2.out.1 h3.out.2 B2.out.1.size, at_below h3.out.2 (Nat.le_refl _) B2.out.2, h3.out.1⟩
        clear c0 c1 c2 c3 B2 h3 H14
        have c0 := Lib.cell_of_heap B3.out.2.1 0
        have c1 := Lib.cell_of_heap B3.out.2.1 1
        have c2 := Lib.cell_of_heap B3.out.2.1 2
        have c3 := Lib.cell_of_heap B3.out.2.1 3
        go_upto_region 7 with (go_at_call 15; refine (H15.out _ _ _ _ B3.out.1 B3.out.2.2 n3 m3).mono ?_; rintro e w4 ⟨p4, c4, rfl, h4⟩)
        have B4 : Hid (Below w.heap.size w w4 ∧ w4.heap[w.heap.size]? = some (.cells #[.int .i64 now, .int .i64 rt, .slice qH nH cH, .slice qL nL cL] 24) ∧ NA w4 p3 N ∧ SlS w4 p4 m c4 (movR subR U N S).2) := ⟨below_from B3.out.1 h4.out.2 B3.out.1.size, at_below h4.out.2 (Nat.le_refl _) B3.out.2.1, B3.out.2.2.below h4.out.2, h4.out.1⟩
        clear c0 c1 c2 c3 B3 h4 H15
        have c0 := Lib.cell_of_heap B4.out.2.1 0
        have c1 := Lib.cell_of_heap B4.out.2.1 1
        have c2 := Lib.cell_of_heap B4.out.2.1 2
        have c3 := Lib.cell_of_heap B4.out.2.1 3
        go_upto_region 10 with (go_at_call 9; refine (H9.out _ B4.out.1).mono ?_; rintro e w5 ⟨p5, k5, c5, rfl, b5⟩)
        have B5 : Hid (Below w.heap.size w w5 ∧ w5.heap[w.heap.size]? = some (.cells #[.int .i64 now, .int .i64 rt, .slice qH nH cH, .slice qL nL cL] 24) ∧ NA w5 p3 N ∧ SlS w5 p4 m c4 (movR subR U N S).2) := ⟨below_from B4.out.1 b5.out B4.out.1.size, at_below b5.out (Nat.le_refl _) B4.out.2.1, B4.out.2.2.1.below b5.out, B4.out.2.2.2.below b5.out⟩
        clear c0 c1 c2 c3 B4 b5 H9
        go_wp2_with fail
        go_ret
        exact ⟨rfl, B5.out.1⟩
end Go.Proofs.Ytjgibngnjlciaaa
