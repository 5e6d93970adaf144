/-
  TimerRings' law.
-/
import Derived.Test.YtnjnfbfjmeofaaaLm
namespace Go.Proofs.Ytnjnfbfjmeofaaa
open Go.RowKit Go.Maps Go.WideMaps Go.Sort

def i16V (ts : List Int) : List Value := ts.map (Value.int .i16)
set_option maxHeartbeats 4000000 in
set_option maxRecDepth 100000 in
theorem rings_law (q q' : Option Addr) (n c m c' : Nat) (ss : List ByteArray) (ts : List Int) (w : World) (hq : Arg w q (strV ss)) (hq' : Arg w q' (i16V ts)) (hn : ss.length = n) (hm : ts.length = m) (hs : ∀ s ∈ ss, s.size ≤ 281474976710656) (ht : ∀ t ∈ ts, -32768 ≤ t ∧ t ≤ 32767) (hn9 : n ≤ 9223372036854775807) (hm9 : m ≤ 9223372036854775807) :
    Calls Try.prog 4 #[.slice q n c, .slice q' m c'] w fun e w' => e = .returned (.bool true) ∧ Below w.heap.size w w' := by
  have HA : Hid (∀ W, Below w.heap.size w W → Calls Try.prog 9 #[] W fun e w' => e = .returned (.bool true) ∧ Hid (Below w.heap.size w w')) := fun W b => awake_any w W b
  have HA0 : Hid (Calls Try.prog 9 #[] w fun e w' => e = .returned (.bool true) ∧ Hid (Below w.heap.size w w')) := HA.out w (Below.refl _ _)
  go_enter Try.func4, Try.ntmps4
  by_cases h2 : 300 < n
  · have h2' : decide ((300 : Int) < (n : Int)) = true := decide_eq_true (by omega)
    clear h2 hn hm hn9 hm9
    go_upto_region 2 with (go_at_call 9; refine HA0.out.mono ?_; rintro e w1 ⟨rfl, b1⟩)
    go_wp2_with (go_at_call 9; refine (HA.out _ b1.out).mono ?_; rintro e w2 ⟨rfl, b2⟩)
    go_ret
    exact ⟨rfl, b2.out⟩
  have h2' : decide ((300 : Int) < (n : Int)) = false := decide_eq_false (by omega)
  have h2'' : (n : Int) ≤ 300 := by omega
  have HNW : Hid (∀ W, Below w.heap.size w W → Calls Try.prog 10 #[] W fun e w' => e = .returned (.pointer (some ⟨W.heap.size, 0, none⟩)) ∧ Hid (LL w w' W.heap.size NX [])) := fun W b => (l_new w W b).mono fun e w' h => ⟨h.1, h.2.1⟩
  by_cases h3 : m = 0
  · have h3' : ((m : Int) == 0) = true := by simp [h3]
    subst h3
    clear h2 hn hm hn9 hm9
    go_wp2_with (first | (go_at_call 9; refine HA0.out.mono ?_; rintro e w1 ⟨rfl, b1⟩) | (go_at_call 10; refine (HNW.out _ b1.out).mono ?_; rintro e w2 ⟨rfl, h2⟩))
    go_ret
    exact ⟨rfl, h2.out.bel⟩
  have h3' : ((m : Int) == 0) = false := by simp; omega
  have h4 : ¬ (m : Int) = 0 := by omega
  have HNN : Hid (n ≤ 300 ∧ ss.length = n ∧ ts.length = m ∧ 0 < m) := ⟨by omega, hn, hm, by omega⟩
  have hm8 : (m : Int) ≤ 9223372036854775807 := by omega
  clear h2 hn hm hn9 hm9
  have HAG : Hid (Arg w q (strV ss) ∧ Arg w q' (i16V ts) ∧ (∀ s ∈ ss, s.size ≤ 281474976710656) ∧ ∀ t ∈ ts, -32768 ≤ t ∧ t ≤ 32767) := ⟨hq, hq', hs, ht⟩
  clear hq hq' hs ht
  go_wp2_with (first | (go_at_call 9; refine HA0.out.mono ?_; rintro e w1 ⟨rfl, b1⟩) | (go_at_call 10; refine (HNW.out _ b1.out).mono ?_; rintro e w2 ⟨rfl, h2⟩))
  generalize w1.heap.size = cb at *
  clear HNW HA HA0 b1
  go_loopw [6] (fun t wr => ∃ k : Nat, t = .int .i64 k ∧ Hid (k ≤ n ∧ LL w wr cb NX (ro ss (ticks ts) k))) (fun t _ => n - (intOf t).toNat)
  case atStart => exact ⟨0, rfl, Nat.zero_le _, h2.out⟩
  case round =>
    clear h2
    obtain ⟨k, rfl, HK⟩ := hrel
    by_cases hk : k < n
    · have hk' : (k : Int) < (n : Int) := by omega
      have HH := HNN.out
      have hb := HK.out.2.bel
      obtain ⟨s, hs⟩ : ∃ s, ss[k]? = some s := ⟨ss[k], List.getElem?_eq_getElem (by omega)⟩
      obtain ⟨j, hj⟩ : ∃ j : Nat, j = k % m := ⟨_, rfl⟩
      have hjm : j < m := by rw [hj]; exact Nat.mod_lt _ (by omega)
      obtain ⟨x, hx⟩ : ∃ x, ts[j]? = some x := ⟨ts[j], List.getElem?_eq_getElem (by omega)⟩
      obtain ⟨g, o, eq1, sc⟩ := HAG.out.1 k (.string s) (by unfold strV; rw [List.getElem?_map, hs]; rfl)
      obtain ⟨g', o', eq2, tc⟩ := HAG.out.2.1 j (.int .i16 x) (by unfold i16V; rw [List.getElem?_map, hx]; rfl)
      have hsz := HAG.out.2.2.1 s (List.mem_of_getElem? hs)
      have hxr := HAG.out.2.2.2 x (List.mem_of_getElem? hx)
      have ex : ticks ts k = x := by
        unfold ticks
        rw [HH.2.2.1, ← hj, List.getD_eq_getElem?_getD, hx]
        rfl
      have es : ss.getD k .empty = s := by rw [List.getD_eq_getElem?_getD, hs]; rfl
      have en : ro ss (ticks ts) (k + 1) = setR s x (ro ss (ticks ts) k) := by
        show setR (ss.getD k .empty) (ticks ts k) _ = _
        rw [es, ex]
      replace sc := cell_below sc hb
      replace tc := cell_below tc hb
      have HS1 : Hid (Calls Try.prog 16 #[.pointer (some ⟨cb, 0, none⟩), .string s, .int .i64 x] wr.drew fun e w' => ∃ r, e = .returned (.int .i64 r) ∧ Hid (LL w w' cb NX (ro ss (ticks ts) (k + 1)))) := by
        refine (l_set (HK.out.2.below (w' := wr.drew) ((Below.refl _ _).drew)) s x hsz).mono ?_
        rintro e w' ⟨rfl, h1⟩
        rw [en]
        exact ⟨_, rfl, h1⟩
      have hj1 : (k : Int) % (m : Int) = (j : Int) := by rw [hj]; simp
      have hj2 : (k : Int).tmod (m : Int) = (j : Int) := by rw [Int.tmod_eq_emod_of_nonneg (by omega)]; exact hj1
      have hjm' : (j : Int) < (m : Int) := by omega
      have hx0 := hxr.1
      have hx1 := hxr.2
      have hxw : IntKind.i64.wrap x = x := by rw [IntKind.wrap_i64]; omega
      subst eq1 eq2
      have Hk : Hid (k < n) := hk
      clear hk HK hs hx ex es en hb hsz hj hjm hxr HH
      go_upto_region 9 with fail
      go_region_with (go_at_call 16; refine HS1.out.mono ?_; rintro e w3 ⟨r, rfl, h3⟩)
      all_goals go_wp2_with fail
      all_goals
        have := Hk.out
        refine ⟨⟨k + 1, by simp, by show k + 1 ≤ n; omega, h3.out⟩, ?_⟩
        simp [intOf]
        omega
    · have hk' : ¬ (k : Int) < (n : Int) := by omega
      have hk2 : decide ((k : Int) < (n : Int)) = false := decide_eq_false hk'
      obtain ⟨R, hR⟩ : ∃ R, R = ro ss (ticks ts) k := ⟨_, rfl⟩
      have HR : Hid ((∀ a ∈ R, -32768 ≤ a.at' ∧ a.at' ≤ 32767) ∧ R.length ≤ 300) := by
        have HH := HNN.out
        have h1 := HK.out.1
        refine ⟨fun a ha => ?_, ?_⟩
        · rw [hR] at ha
          refine ro_mem (P := fun x => -32768 ≤ x ∧ x ≤ 32767) (fun i => ?_) k a ha
          unfold ticks
          have hjm : i % ts.length < ts.length := Nat.mod_lt _ (by omega)
          rw [List.getD_eq_getElem?_getD, List.getElem?_eq_getElem hjm]
          exact HAG.out.2.2.2 _ (List.getElem_mem hjm)
        · have := ro_len ss (ticks ts) k
          rw [hR]
          omega
      have HL : Hid (LL w wr cb NX R) := by rw [hR]; exact HK.out.2
      have H12 : Hid (Calls Try.prog 12 #[.pointer (some ⟨cb, 0, none⟩)] wr fun e w' => e = .returned (.int .i64 R.length) ∧ w' = wr) := l_len HL.out
      have HG0 : Hid (Rg w wr cb R 0 (-40000) (-32768)) := ⟨[], R, rfl, rfl, HL.out, fun a ha => by have := (HR.out.1 a ha).1; omega, fun q => by omega⟩
      have hRl : (R.length : Int) ≤ 300 := by have := HR.out.2; omega
      clear HK hk hR HL HAG HNN
      go_wp2_with (go_at_call 12; refine H12.out.mono ?_; rintro e w3 ⟨rfl, rfl⟩)
      clear H12
      go_loopw [7, 9, 10] (fun tr tl tn wr => ∃ (rung j : Nat) (last now : Int), tr = .int .i64 rung ∧ tl = .int .i64 last ∧ tn = .int .i64 now ∧ Hid (Rg w wr cb R rung last now ∧ now = -32768 + 4096 * j ∧ j ≤ 17)) (fun _ _ t _ => (40960 - intOf t).toNat)
      case atStart => exact ⟨0, 0, -40000, -32768, rfl, rfl, rfl, HG0.out, rfl, by omega⟩
      case round =>
        clear HG0
        obtain ⟨rung, j, last, now, rfl, rfl, rfl, HJ⟩ := hrel
        by_cases hno : now ≤ 32768
        · have hno1 : -32768 ≤ now := by have := HJ.out.2; omega
          obtain ⟨P, Q, ePQ, eP, HQ, hla, _⟩ := HJ.out.1.g
          have hsr := HQ.srt
          obtain ⟨T, hT⟩ : ∃ T, T = pw now Q := ⟨_, rfl⟩
          have H14 : Hid (Calls Try.prog 14 #[.pointer (some ⟨cb, 0, none⟩), .int .i64 now] wr fun e w' => ∃ v, e = .returned v ∧ Hid (Row w' v T ∧ LL w w' cb NX (dw now Q))) := by
            rw [hT]
            exact l_due HQ now
          have HTT : Hid ((∀ i, i < T.length → (gt T i).at' ≤ now ∧ last < (gt T i).at') ∧ Srt T ∧ rung + T.length ≤ 300) := by
            refine ⟨fun i hi => ?_, by rw [hT]; exact pw_srt hsr now, ?_⟩
            · have hm := List.mem_of_getElem? (gt_some hi)
              rw [hT] at hm ⊢
              exact ⟨pw_le now _ hm, hla _ ((List.takeWhile_sublist _).subset hm)⟩
            · have h1 := congrArg List.length ePQ
              have h2 := congrArg List.length (pw_dw now Q)
              have := HR.out.2
              simp only [List.length_append] at h1 h2
              rw [← hT] at h2
              show _ ≤ 300
              omega
          have HNX : Hid (∀ W, LL w W cb NX (dw now Q) → Rg w W cb R (rung + T.length) now (now + 4096) ∧ now + 4096 = -32768 + 4096 * ((j + 1 : Nat) : Int) ∧ j + 1 ≤ 17) := fun W h => by
            have hj := HJ.out.2
            refine ⟨⟨P ++ T, dw now Q, ?_, ?_, h, dw_gt hsr now, fun q => ?_⟩, by omega, by omega⟩
            · rw [hT, List.append_assoc, pw_dw]
              exact ePQ
            · rw [List.length_append, eP]
            · have e : now = 32768 := by omega
              subst e
              unfold dw
              have hd : ∀ a ∈ Q, decide (a.at' ≤ (32768 : Int)) = true := fun a ha => decide_eq_true (by
                have := (HR.out.1 a (by rw [← ePQ]; exact List.mem_append_right _ ha)).2
                omega)
              have := List.dropWhile_append_of_pos (l₂ := []) hd
              simpa using this
          have hru : (rung : Int) + (T.length : Int) ≤ 300 := by have := HTT.out.2.2; omega
          clear HJ ePQ eP HQ hla hsr hT
          go_wp2_with (go_at_call 14; refine H14.out.mono ?_; rintro e w4 ⟨v, rfl, h4⟩)
          obtain ⟨vq, vc, ev⟩ := h4.out.1.shape
          subst ev
          clear H14
          go_loopw [12] (fun t wx => ∃ i : Nat, t = .int .i64 i ∧ Hid (i ≤ T.length ∧ RowKit.Below w4.heap.size w4 wx)) (fun t _ => T.length - (intOf t).toNat)
          case atStart => exact ⟨0, rfl, Nat.zero_le _, RowKit.Below.refl _ _⟩
          case round =>
            obtain ⟨i, rfl, HI⟩ := hrel
            by_cases hi : i < T.length
            · have hi' : (i : Int) < (T.length : Int) := by omega
              obtain ⟨g, vc', e1⟩ := h4.out.1.row (by omega)
              have r1 := h4.out.1
              rw [e1] at r1
              have eqa : vq = some ⟨g, 0, none⟩ ∧ vc = vc' := by simpa using e1
              have hgi := gt_some hi
              have x0 := cell_below (r1.c0 hgi) HI.out.2
              have x1 := cell_below (r1.c1 hgi) HI.out.2
              obtain ⟨rfl, rfl⟩ := eqa
              have ht1 : decide (now < (gt T i).at') = false := decide_eq_false (by have := (HTT.out.1 i hi).1; omega)
              have ht2 : decide ((gt T i).at' ≤ last) = false := decide_eq_false (by have := (HTT.out.1 i hi).2; omega)
              have Hi : Hid (i < T.length) := hi
              have HIB : Hid (RowKit.Below w4.heap.size w4 wr) := HI.out.2
              have FIN : Hid (∀ W : World, RowKit.Below wr.heap.size wr W → RowKit.Below w4.heap.size w4 W) := fun W b => HIB.out.trans (b.mono HIB.out.size)
              by_cases hi0 : i = 0
              · subst hi0
                clear hi HI r1 e1 hgi
                go_upto_region 22 with fail
                go_quiet (fail)
                go_wp2_with fail
                have := Hi.out
                refine ⟨⟨1, rfl, by show 1 ≤ T.length; omega, FIN.out _ (below_drewN (RowKit.Below.refl _ _) _)⟩, ?_⟩
                simp [intOf]
                omega
              · obtain ⟨i', rfl⟩ : ∃ i', i = i' + 1 := ⟨i - 1, by omega⟩
                have hgj := gt_some (l := T) (i := i') (by omega)
                have y0 := cell_below (r1.c0 hgj) HIB.out
                have y1 := cell_below (r1.c1 hgj) HIB.out
                have H17 : Hid (∀ W, Calls Try.prog 17 #[.agg #[.string (gt T i').nm, .int .i64 (gt T i').at'], .agg #[.string (gt T (i' + 1)).nm, .int .i64 (gt T (i' + 1)).at']] W fun e w' => e = .returned (.bool true) ∧ RowKit.Below W.heap.size W w') := fun W => by
                  have := before_any (gt T i') (gt T (i' + 1)) W
                  rw [srt_next HTT.out.2.1 hi] at this
                  exact this
                generalize (gt T i').nm = bn at *
                generalize (gt T i').at' = ba at *
                generalize (gt T (i' + 1)).nm = an at *
                generalize (gt T (i' + 1)).at' = aa at *
                obtain ⟨i2, hi2⟩ : ∃ i2 : Nat, i2 = i' + 1 := ⟨_, rfl⟩
                rw [← hi2] at x0 x1 hi' Hi ⊢
                have hi3 : (i2 : Int) - 1 = (i' : Int) := by omega
                have hi4 : (0 : Int) < (i2 : Int) := by omega
                have hi5 : decide ((0 : Int) < (i2 : Int)) = true := decide_eq_true hi4
                have hi8 : 0 < i2 := by omega
                have hi9 : decide (0 < i2) = true := decide_eq_true hi8
                have hi6 : (i' : Int) < (T.length : Int) := by omega
                have hi7 : (i2 : Int) ≤ 300 := by omega
                clear hi HI r1 e1 hgi hgj hi0 hi2
                go_upto_region 22 with fail
                have G17 := grown (W := wr) H17
                have m0 := cell_regrown x0
                have m1 := cell_regrown x1
                have m2 := cell_regrown y0
                have m3 := cell_regrown y1
                refine wp_region_quiet_below (by kernel_rfl) (by kernel_rfl) ?_
                repeat (first | go_big_quiet_step ((go_at_call 17; exact G17.out _ _)) | quiet_step ((go_at_call 17; exact G17.out _ _)))
                refine wpQuiet_nil ?_
                intro _ hw'
                obtain ⟨⟨dq, osq⟩, hw''⟩ := hw'
                subst hw''
                have HBF : Hid (RowKit.Below w4.heap.size w4 (grow (redrawn wr dq) osq)) := FIN.out _ (below_regrown wr dq osq)
                clear m0 m1 m2 m3 x0 x1 y0 y1 H17 G17
                generalize grow (redrawn wr dq) osq = W4 at *
                go_wp2_with fail
                have := Hi.out
                refine ⟨⟨i2 + 1, by simp, by show i2 + 1 ≤ T.length; omega, HBF.out⟩, ?_⟩
                simp [intOf]
                omega
            · have hi' : ¬ (i : Int) < (T.length : Int) := by omega
              have hi2 : decide ((i : Int) < (T.length : Int)) = false := decide_eq_false hi'
              have HF := HNX.out wr (h4.out.2.below HI.out.2)
              have HF' : Hid (Rg w wr cb R (rung + T.length) now (now + 4096) ∧ now + 4096 = -32768 + 4096 * ((j + 1 : Nat) : Int) ∧ j + 1 ≤ 17) := HF
              clear hi HI HF
              go_wp2_with fail
              refine ⟨⟨rung + T.length, j + 1, now, now + 4096, by simp, rfl, rfl, HF'.out⟩, ?_⟩
              simp [intOf]
              omega
        · have hno' : decide (now ≤ 32768) = false := decide_eq_false hno
          obtain ⟨P, Q, ePQ, eP, HQ, hla, hQ0⟩ := HJ.out.1.g
          have hQ := hQ0 (by omega)
          subst hQ
          rw [List.append_nil] at ePQ
          subst ePQ
          subst eP
          have H12 : Hid (Calls Try.prog 12 #[.pointer (some ⟨cb, 0, none⟩)] wr fun e w' => e = .returned (.int .i64 0) ∧ w' = wr) := l_len HQ
          have HB : Hid (RowKit.Below w.heap.size w wr) := HQ.bel
          clear HJ hno HQ hla hQ0
          go_wp2_with (go_at_call 12; refine H12.out.mono ?_; rintro e w5 ⟨rfl, rfl⟩)
          go_ret
          exact ⟨rfl, HB.out⟩
end Go.Proofs.Ytnjnfbfjmeofaaa
