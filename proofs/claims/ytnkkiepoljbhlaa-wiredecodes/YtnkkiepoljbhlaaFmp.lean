/-
  The reference's Job: its loops; the whole of it.
-/
import Derived.Test.YtnkkiepoljbhlaaFmo
import Derived.Lib.QuietBelow
namespace Go.Proofs.Ytnkkiepoljbhlaa
open Go.RowKit Go.Sort

theorem grown31 {W : World} {f : FuncId} {args : Array Value} {v : Value} (H : Hid (∀ w, Calls Try.prog f args w fun e w' => e = .returned v ∧ RowKit.Below w.heap.size w w')) :
    Hid (∀ d os, Calls Try.prog f args (grow (redrawn W d) os) fun e w'' => e = .returned v ∧ ∃ p : Regrown, w'' = grow (redrawn W p.d) p.os) := fun _ _ => Calls.regrown_of (H.out _)
set_option maxHeartbeats 8000000 in
set_option maxRecDepth 100000 in
theorem rjob_good (id pr rt : Int) (tn : ByteArray) (pa ta na da : Option Addr) (pn pc tk tc nc dc : Nat) (A : List Int) (T : List V4) (w : World)
    (H1 : Hid (∀ W, Calls Try.prog 31 #[.int .i64 id] W fun e w' => e = .returned (.bool true) ∧ RowKit.Below W.heap.size W w'))
    (H2 : Hid (∀ W, Calls Try.prog 28 #[.string tn] W fun e w' => e = .returned (.bool true) ∧ w' = W)) (f0 : decide (pr < 0) = false) (f1 : decide ((100 : Int) < pr) = false) (f2 : decide (rt < 1) = false) (f3 : decide ((1000 : Int) < rt) = false) (l0 : decide ((4 : Int) < (pn : Int)) = false) (l1 : decide ((tk : Int) < 1) = false) (l2 : decide ((6 : Int) < (tk : Int)) = false)
    (hA : Hid (A.length = pn ∧ LiesV w pa (intsV A))) (hT : Hid (T.length = tk ∧ LiesV w ta (flat T))) :
    Calls Try.prog 30 #[.agg #[.int .i64 id, .string tn, .int .i64 pr, .int .i64 rt, .slice pa pn pc, .slice ta tk tc, .int .i64 0, .int .i64 0, .slice na 0 nc, .int .i64 0, .slice da 0 dc]] w fun e w' => e = .returned (.bool (par id 0 A && T.all V4.fm)) ∧ RowKit.Below w.heap.size w w' := by
  have hp4 : (pn : Int) ≤ 4 := by have := of_decide_eq_false l0; omega
  have ht6 : (tk : Int) ≤ 6 := by have := of_decide_eq_false l2; omega
  go_enter Try.func30, Try.ntmps30
  go_upto_region 1 with fail
  have P1 : Hid _ := new0 (w := w) (o := .cells #[.int .i64 id, .string tn, .int .i64 pr, .int .i64 rt, .slice pa pn pc, .slice ta tk tc, .int .i64 0, .int .i64 0, .slice na 0 nc, .int .i64 0, .slice da 0 dc] 30)
  have y1 : Hid (RowKit.Below w.heap.size w (w.alloc (.cells #[.int .i64 id, .string tn, .int .i64 pr, .int .i64 rt, .slice pa pn pc, .slice ta tk tc, .int .i64 0, .int .i64 0, .slice na 0 nc, .int .i64 0, .slice da 0 dc] 30))) := (RowKit.Below.refl _ w).alloc (Nat.le_refl _) _
  generalize w.alloc (.cells #[.int .i64 id, .string tn, .int .i64 pr, .int .i64 rt, .slice pa pn pc, .slice ta tk tc, .int .i64 0, .int .i64 0, .slice na 0 nc, .int .i64 0, .slice da 0 dc] 30) = W at *
  obtain ⟨e0, e1, e2, e3, e4, e5, e6, e7, e8, e9, e10⟩ := c11a P1.out
  go_wp2_with (go_at_call 31; refine (H1.out _).mono ?_)
  rintro e w1 ⟨rfl, b1⟩
  have P2 : Hid _ := at_below b1 (Nat.le_refl _) P1.out
  have y2 : Hid _ := below_from y1.out b1 y1.out.size
  clear b1 e0 e1 e2 e3 e4 e5 e6 e7 e8 e9 e10
  obtain ⟨e0, e1, e2, e3, e4, e5, e6, e7, e8, e9, e10⟩ := c11a P2.out
  go_wp2_with (go_at_call 28; refine (H2.out _).mono ?_; rintro e w2 ⟨rfl, rfl⟩)
  have HP : Hid (RowKit.Below w.heap.size w w2 ∧ w2.heap[w.heap.size]? = some (.cells #[.int .i64 id, .string tn, .int .i64 pr, .int .i64 rt, .slice pa pn pc, .slice ta tk tc, .int .i64 0, .int .i64 0, .slice na 0 nc, .int .i64 0, .slice da 0 dc] 30)) := ⟨y2.out, P2.out⟩
  clear e0 e1 e2 e3 e4 e5 e6 e7 e8 e9 e10 P1 P2 y1 y2 H1 H2 f0 f1 f2 f3 l0 l1 l2
  go_loopw [3] (fun t wr => ∃ (k : Nat) (q : Int), t = .int .i64 k ∧ Hid (k ≤ pn ∧ par id 0 A = par id q (A.drop k) ∧ ((k = 0 ∧ q = 0) ∨ (0 < k ∧ 1 ≤ q ∧ A[k - 1]? = some q)) ∧ RowKit.Below w.heap.size w wr ∧ wr.heap[w.heap.size]? = some (.cells #[.int .i64 id, .string tn, .int .i64 pr, .int .i64 rt, .slice pa pn pc, .slice ta tk tc, .int .i64 0, .int .i64 0, .slice na 0 nc, .int .i64 0, .slice da 0 dc] 30))) (fun t _ => pn - (intOf t).toNat)
  case atStart => exact ⟨0, 0, rfl, Nat.zero_le _, rfl, .inl ⟨rfl, rfl⟩, HP.out⟩
  case round =>
    clear HP
    obtain ⟨k, q, rfl, HK⟩ := hrel
    have FIN : Hid (∀ W', RowKit.Below wr.heap.size wr W' → RowKit.Below w.heap.size w W' ∧ W'.heap[w.heap.size]? = some (.cells #[.int .i64 id, .string tn, .int .i64 pr, .int .i64 rt, .slice pa pn pc, .slice ta tk tc, .int .i64 0, .int .i64 0, .slice na 0 nc, .int .i64 0, .slice da 0 dc] 30)) := fun W' b => ⟨below_from HK.out.2.2.2.1 b HK.out.2.2.2.1.size, at_below b (Nat.le_refl _) HK.out.2.2.2.2⟩
    obtain ⟨e0, _, _, _, e4, _⟩ := c11a HK.out.2.2.2.2
    by_cases hk : k < pn
    · have hk' : (k : Int) < (pn : Int) := by omega
      have Hk : Hid (k < pn) := hk
      obtain ⟨x, hx⟩ : ∃ x, A[k]? = some x := ⟨A[k]'(by have := hA.out.1; omega), List.getElem?_eq_getElem _⟩
      obtain ⟨g, o, eq1, row⟩ : ∃ g o, pa = some ⟨g, o, none⟩ ∧ RowV wr g o (intsV A) := by
        rcases hA.out.2.keep HK.out.2.2.2.1 (Nat.le_refl _) with h | h
        · exfalso
          have := ints_get hx
          rw [h] at this
          simp at this
        · exact h
      have t0 := row k _ (ints_get hx)
      have HD : Hid (par id 0 A = (decide (q < x ∧ x ≤ 100 ∧ x ≠ id) && par id x (A.drop (k + 1)))) := by
        unfold Hid
        rw [HK.out.2.1]
        exact par_drop _ _ hx
      have HQ : Hid ((k = 0 ∧ q = 0) ∨ (0 < k ∧ 1 ≤ q ∧ A[k - 1]? = some q)) := HK.out.2.2.1
      have HX : Hid (A[k]? = some x) := hx
      have HR : Hid (RowV wr g o (intsV A)) := row
      have HN : Hid (∀ W', RowKit.Below w.heap.size w W' ∧ W'.heap[w.heap.size]? = some (.cells #[.int .i64 id, .string tn, .int .i64 pr, .int .i64 rt, .slice pa pn pc, .slice ta tk tc, .int .i64 0, .int .i64 0, .slice na 0 nc, .int .i64 0, .slice da 0 dc] 30) → 1 ≤ x → decide (q < x ∧ x ≤ 100 ∧ x ≠ id) = true → k + 1 ≤ pn ∧ par id 0 A = par id x (A.drop (k + 1)) ∧ ((k + 1 = 0 ∧ x = 0) ∨ (0 < k + 1 ∧ 1 ≤ x ∧ A[k + 1 - 1]? = some x)) ∧ RowKit.Below w.heap.size w W' ∧ W'.heap[w.heap.size]? = some (.cells #[.int .i64 id, .string tn, .int .i64 pr, .int .i64 rt, .slice pa pn pc, .slice ta tk tc, .int .i64 0, .int .i64 0, .slice na 0 nc, .int .i64 0, .slice da 0 dc] 30)) := fun W' h h1 h2 => ⟨Hk.out, by rw [HD.out, h2, Bool.true_and], .inr ⟨by omega, h1, HX.out⟩, h⟩
      subst eq1
      obtain ⟨y, hy⟩ : ∃ y, y = wi x 1 100 := ⟨_, rfl⟩
      have H31 : Hid (∀ W, Calls Try.prog 31 #[.int .i64 x] W fun e w' => e = .returned (.bool y) ∧ RowKit.Below W.heap.size W w') := fun W => by rw [hy]; exact rjnumber_any x W
      have HY : Hid (y = wi x 1 100) := hy
      clear hx row HK hk hy
      cases y with
      | false =>
        have HF : Hid (decide (q < x ∧ x ≤ 100 ∧ x ≠ id) = false) := by
          have h1 := HY.out
          have h2 := HQ.out
          unfold wi at h1
          unfold Hid
          simp at h1 ⊢
          omega
        go_upto_region 10 with fail
        have m0 := cell_regrown e0
        have m1 := cell_regrown e4
        have m2 := cell_regrown t0
        have G31 := grown31 (W := wr) H31
        refine wp_region_quiet_below (by kernel_rfl) (by kernel_rfl) ?_
        repeat (first | go_big_quiet_step ((go_at_call 31; exact G31.out _ _)) | quiet_step ((go_at_call 31; exact G31.out _ _)))
        refine wpQuiet_nil ?_
        intro _ hw'
        obtain ⟨⟨dq, osq⟩, hw''⟩ := hw'
        subst hw''
        have HBF : Hid _ := FIN.out _ (below_regrown wr dq osq)
        clear m0 m1 m2 G31
        generalize grow (redrawn wr dq) osq = W4 at *
        go_wp2_with fail
        go_ret
        exact ⟨ret_b (by rw [HD.out, HF.out]; rfl), HBF.out.1⟩
      | true =>
        have hw1 : 1 ≤ x ∧ x ≤ 100 := by
          have h1 := HY.out
          unfold wi at h1
          simpa using h1.symm
        have HW : Hid (1 ≤ x ∧ x ≤ 100) := hw1
        clear hw1
        by_cases f5 : x = id
        · have HF : Hid (decide (q < x ∧ x ≤ 100 ∧ x ≠ id) = false) := by unfold Hid; simp; omega
          have f6 : (x == id) = true := by simpa using f5
          clear f5
          go_upto_region 10 with fail
          have m0 := cell_regrown e0
          have m1 := cell_regrown e4
          have m2 := cell_regrown t0
          have G31 := grown31 (W := wr) H31
          refine wp_region_quiet_below (by kernel_rfl) (by kernel_rfl) ?_
          repeat (first | go_big_quiet_step ((go_at_call 31; exact G31.out _ _)) | quiet_step ((go_at_call 31; exact G31.out _ _)))
          refine wpQuiet_nil ?_
          intro _ hw'
          obtain ⟨⟨dq, osq⟩, hw''⟩ := hw'
          subst hw''
          have HBF : Hid _ := FIN.out _ (below_regrown wr dq osq)
          clear m0 m1 m2 G31
          generalize grow (redrawn wr dq) osq = W4 at *
          go_wp2_with fail
          go_ret
          exact ⟨ret_b (by rw [HD.out, HF.out]; rfl), HBF.out.1⟩
        · have f6 : (x == id) = false := by simpa using f5
          have HID : Hid (x ≠ id) := f5
          clear f5
          by_cases hk0 : k = 0
          · have i5 : decide ((0 : Int) < (k : Int)) = false := decide_eq_false (by omega)
            have i4 : ¬ (0 : Int) < (k : Int) := by omega
            have i8 : ¬ 0 < k := by omega
            have i9 : decide (0 < k) = false := decide_eq_false i8
            have HK0 : Hid (k = 0) := hk0
            clear hk0
            have HT : Hid (decide (q < x ∧ x ≤ 100 ∧ x ≠ id) = true) := by
              have h1 := HW.out
              have h2 := HQ.out
              have h3 := HID.out
              have h4 := HK0.out
              unfold Hid
              simp
              omega
            go_upto_region 10 with fail
            have m0 := cell_regrown e0
            have m1 := cell_regrown e4
            have m2 := cell_regrown t0
            have G31 := grown31 (W := wr) H31
            refine wp_region_quiet_below (by kernel_rfl) (by kernel_rfl) ?_
            repeat (first | go_big_quiet_step ((go_at_call 31; exact G31.out _ _)) | quiet_step ((go_at_call 31; exact G31.out _ _)))
            refine wpQuiet_nil ?_
            intro _ hw'
            obtain ⟨⟨dq, osq⟩, hw''⟩ := hw'
            subst hw''
            have HBF : Hid _ := FIN.out _ (below_regrown wr dq osq)
            clear m0 m1 m2 G31
            generalize grow (redrawn wr dq) osq = W4 at *
            go_wp2_with fail
            refine ⟨⟨k + 1, x, by simp, HN.out _ HBF.out HW.out.1 HT.out⟩, ?_⟩
            have := Hk.out
            simp [intOf]
            omega
          · obtain ⟨k', ek⟩ : ∃ k', k = k' + 1 := ⟨k - 1, by omega⟩
            have hq : 1 ≤ q ∧ A[k']? = some q := by
              have h2 := HQ.out
              subst ek
              rcases h2 with h2 | ⟨_, h3, h4⟩
              · omega
              · exact ⟨h3, h4⟩
            have t1 := HR.out k' _ (ints_get hq.2)
            have HQ1 : Hid (1 ≤ q) := hq.1
            have i3 : (k : Int) - 1 = (k' : Int) := by omega
            have i4 : (0 : Int) < (k : Int) := by omega
            have i5 : decide ((0 : Int) < (k : Int)) = true := decide_eq_true i4
            have i6 : (k' : Int) < (pn : Int) := by omega
            have i8 : 0 < k := by omega
            have i9 : decide (0 < k) = true := decide_eq_true i8
            clear hq ek hk0
            by_cases f7 : x ≤ q
            · have HF : Hid (decide (q < x ∧ x ≤ 100 ∧ x ≠ id) = false) := by unfold Hid; simp; omega
              go_upto_region 10 with fail
              have m0 := cell_regrown e0
              have m1 := cell_regrown e4
              have m2 := cell_regrown t0
              have m3 := cell_regrown t1
              have G31 := grown31 (W := wr) H31
              refine wp_region_quiet_below (by kernel_rfl) (by kernel_rfl) ?_
              repeat (first | go_big_quiet_step ((go_at_call 31; exact G31.out _ _)) | quiet_step ((go_at_call 31; exact G31.out _ _)))
              refine wpQuiet_nil ?_
              intro _ hw'
              obtain ⟨⟨dq, osq⟩, hw''⟩ := hw'
              subst hw''
              have HBF : Hid _ := FIN.out _ (below_regrown wr dq osq)
              clear m0 m1 m2 m3 G31
              generalize grow (redrawn wr dq) osq = W4 at *
              go_wp2_with fail
              go_ret
              exact ⟨ret_b (by rw [HD.out, HF.out]; rfl), HBF.out.1⟩
            · have f8 : decide (x ≤ q) = false := decide_eq_false f7
              have HT : Hid (decide (q < x ∧ x ≤ 100 ∧ x ≠ id) = true) := by
                have h1 := HW.out
                have h3 := HID.out
                unfold Hid
                simp
                omega
              clear f7
              go_upto_region 10 with fail
              have m0 := cell_regrown e0
              have m1 := cell_regrown e4
              have m2 := cell_regrown t0
              have m3 := cell_regrown t1
              have G31 := grown31 (W := wr) H31
              refine wp_region_quiet_below (by kernel_rfl) (by kernel_rfl) ?_
              repeat (first | go_big_quiet_step ((go_at_call 31; exact G31.out _ _)) | quiet_step ((go_at_call 31; exact G31.out _ _)))
              refine wpQuiet_nil ?_
              intro _ hw'
              obtain ⟨⟨dq, osq⟩, hw''⟩ := hw'
              subst hw''
              have HBF : Hid _ := FIN.out _ (below_regrown wr dq osq)
              clear m0 m1 m2 m3 G31
              generalize grow (redrawn wr dq) osq = W4 at *
              go_wp2_with fail
              refine ⟨⟨k + 1, x, by simp, HN.out _ HBF.out HW.out.1 HT.out⟩, ?_⟩
              have := Hk.out
              simp [intOf]
              omega
    · have hk' : ¬ (k : Int) < (pn : Int) := by omega
      have hk2 : decide ((k : Int) < (pn : Int)) = false := decide_eq_false hk'
      have HE : Hid (par id 0 A = true) := by unfold Hid; rw [HK.out.2.1, List.drop_of_length_le (by have := hA.out.1; omega)]; rfl
      have HP : Hid (RowKit.Below w.heap.size w wr ∧ wr.heap[w.heap.size]? = some (.cells #[.int .i64 id, .string tn, .int .i64 pr, .int .i64 rt, .slice pa pn pc, .slice ta tk tc, .int .i64 0, .int .i64 0, .slice na 0 nc, .int .i64 0, .slice da 0 dc] 30)) := HK.out.2.2.2
      clear HK hk FIN
      go_wp2_with fail
      clear e0 e4 hk' hk2
      go_loopw [4] (fun t wr => ∃ (k : Nat), t = .int .i64 k ∧ Hid (k ≤ tk ∧ T.all V4.fm = (T.drop k).all V4.fm ∧ RowKit.Below w.heap.size w wr ∧ wr.heap[w.heap.size]? = some (.cells #[.int .i64 id, .string tn, .int .i64 pr, .int .i64 rt, .slice pa pn pc, .slice ta tk tc, .int .i64 0, .int .i64 0, .slice na 0 nc, .int .i64 0, .slice da 0 dc] 30))) (fun t _ => tk - (intOf t).toNat)
      case atStart => exact ⟨0, rfl, Nat.zero_le _, rfl, HP.out⟩
      case round =>
        clear HP
        obtain ⟨k, rfl, HK⟩ := hrel
        obtain ⟨_, _, _, _, _, e5, _⟩ := c11a HK.out.2.2.2
        by_cases hk : k < tk
        · have hk' : (k : Int) < (tk : Int) := by omega
          have Hk : Hid (k < tk) := hk
          obtain ⟨x, hx⟩ : ∃ x, T[k]? = some x := ⟨T[k]'(by have := hT.out.1; omega), List.getElem?_eq_getElem _⟩
          obtain ⟨g, o, eq1, row⟩ : ∃ g o, ta = some ⟨g, o, none⟩ ∧ RowV wr g o (flat T) := by
            rcases hT.out.2.keep HK.out.2.2.1 (Nat.le_refl _) with h | h
            · exfalso
              have := congrArg List.length h
              rw [flat_length] at this
              have := hT.out.1
              simp only [List.length_nil] at *
              omega
            · exact h
          obtain ⟨t0, t1, t2, t3⟩ := row_vec row hx
          have HD : Hid (T.all V4.fm = (x.fm && (T.drop (k + 1)).all V4.fm)) := by unfold Hid; rw [HK.out.2.1]; exact all_dropV _ hx
          have H29 : Hid (∀ w, Calls Try.prog 29 #[.agg #[.int .i64 x.a, .int .i64 x.b, .int .i64 x.c, .int .i64 x.d]] w fun e w' => e = .returned (.bool x.fm) ∧ RowKit.Below w.heap.size w w') := fun w => rvformed_any _ _ _ _ w
          have FIN : Hid (∀ W', RowKit.Below wr.heap.size wr W' → RowKit.Below w.heap.size w W' ∧ W'.heap[w.heap.size]? = some (.cells #[.int .i64 id, .string tn, .int .i64 pr, .int .i64 rt, .slice pa pn pc, .slice ta tk tc, .int .i64 0, .int .i64 0, .slice na 0 nc, .int .i64 0, .slice da 0 dc] 30)) := fun W' b => ⟨below_from HK.out.2.2.1 b HK.out.2.2.1.size, at_below b (Nat.le_refl _) HK.out.2.2.2⟩
          subst eq1
          clear hx row HK hk
          generalize hb : x.fm = b at *
          clear hb
          go_wp2_with (go_at_call 29; refine (H29.out _).mono ?_)
          rintro e w3 ⟨rfl, b3⟩
          have HB3 : Hid _ := FIN.out _ b3
          clear b3 t0 t1 t2 t3 e5 FIN
          cases b with
          | false =>
            go_wp2_with fail
            go_ret
            exact ⟨ret_b (by rw [HE.out, HD.out]; rfl), HB3.out.1⟩
          | true =>
            go_wp2_with fail
            refine ⟨⟨k + 1, by simp, Hk.out, by rw [HD.out, Bool.true_and], HB3.out⟩, ?_⟩
            have := Hk.out
            simp [intOf]
            omega
        · have HL : Hid (T.all V4.fm = true) := by unfold Hid; rw [HK.out.2.1, List.drop_of_length_le (by have := hT.out.1; omega)]; rfl
          have hk' : ¬ (k : Int) < (tk : Int) := by omega
          have hk2 : decide ((k : Int) < (tk : Int)) = false := decide_eq_false hk'
          have HB3 : Hid _ := HK.out.2.2
          clear HK hk
          go_wp2_with fail
          go_ret
          exact ⟨ret_b (by rw [HE.out, HL.out]; rfl), HB3.out.1⟩
end Go.Proofs.Ytnkkiepoljbhlaa
