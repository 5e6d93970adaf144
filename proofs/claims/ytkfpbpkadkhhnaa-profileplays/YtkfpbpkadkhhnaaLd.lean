/-
  ProfileHolds' law: the walk.
-/
import Derived.Test.YtkfpbpkadkhhnaaLc
namespace Go.Proofs.Ytkfpbpkadkhhnaa
open Go.RowKit Go.Maps Go.Sort

theorem oneX {w : World} {bx : Nat} {o : Obj} (h : w.heap[bx]? = some o) : ∀ j o', adX NX bx o j = some o' → w.heap[j]? = some o' := fun j o' e => by
  unfold adX at e
  split at e
  · rename_i q
    cases e
    rw [q]
    exact h
  · cases e
set_option maxHeartbeats 4000000 in
set_option maxRecDepth 100000 in
theorem holds_law (C : V) (q : Option Addr) (n c : Nat) (L : List Opr) (w : World) (hq : Scr w q L) (hn : L.length = n) (hn9 : n ≤ 9223372036854775807) :
    Calls Try.prog 4 #[.agg #[.int .i64 C.a, .int .i64 C.b, .int .i64 C.c, .int .i64 C.d], .slice q n c] w fun e w' => e = .returned (.bool true) ∧ Below w.heap.size w w' := by
  obtain ⟨W, hW⟩ : ∃ W, W = w.alloc (vB C) := ⟨_, rfl⟩
  have hBW : Below w.heap.size w W := by rw [hW]; exact (Below.refl _ w).alloc (Nat.le_refl _) _
  have hbx : W.heap[w.heap.size]? = some (vB C) := by rw [hW]; exact new0
  have HA : Hid (∀ W1, Below W.heap.size W W1 → Calls Try.prog 8 #[] W1 fun e w' => e = .returned (.bool true) ∧ Hid (Below W.heap.size W w')) := fun W1 b => awake_any W W1 b
  have HA0 : Hid (Calls Try.prog 8 #[] W fun e w' => e = .returned (.bool true) ∧ Hid (Below W.heap.size W w')) := HA.out W (Below.refl _ _)
  have HFB : Hid (∀ w', Below W.heap.size W w' → Below w.heap.size w w') := fun w' b => hBW.trans (b.mono hBW.size)
  rw [hW] at HA HA0 HFB
  go_enter Try.func4, Try.ntmps4
  by_cases h2 : 300 < n
  · have h2' : decide ((300 : Int) < (n : Int)) = true := decide_eq_true (by omega)
    clear h2 hn hn9 hW hBW hbx
    go_upto_region 2 with (go_at_call 8; refine HA0.out.mono ?_; rintro e w1 ⟨rfl, b1⟩)
    go_wp2_with (go_at_call 8; refine (HA.out _ b1.out).mono ?_; rintro e w2 ⟨rfl, b2⟩)
    go_ret
    exact ⟨rfl, HFB.out _ b2.out⟩
  have h2' : decide ((300 : Int) < (n : Int)) = false := decide_eq_false (by omega)
  have h2'' : (n : Int) ≤ 300 := by omega
  have HNN : Hid (L.length = n ∧ Scr w q L) := ⟨hn, hq⟩
  have HBX : Hid (∀ w', Below W.heap.size W w' → w'.heap[w.heap.size]? = some (vB C)) := fun w' b => at_below b (Nat.le_refl _) hbx
  rw [hW] at HBX
  clear h2 hn hn9 hq hW hBW hbx
  go_upto_region 3 with (go_at_call 8; refine HA0.out.mono ?_; rintro e w1 ⟨rfl, b1⟩)
  have hb1 := HBX.out _ b1.out
  have y1 : Hid (Below w.heap.size w w1) := HFB.out _ b1.out
  clear HA HA0 HFB HBX b1
  obtain ⟨q0, q1, q2, q3, -⟩ := cells4 hb1
  by_cases hC : C.ok = true
  case neg =>
    have HN : Hid (Calls Try.prog 9 #[.agg #[.int .i64 C.a, .int .i64 C.b, .int .i64 C.c, .int .i64 C.d]] w1 fun e w' => e = .returned (.tuple #[.pointer none, .int .i64 4]) ∧ Hid (Below w.heap.size w w')) := (new_bad w1 C (by simpa using hC)).mono fun e w' h => ⟨h.1, y1.out.trans (h.2.mono y1.out.size)⟩
    go_wp2_with (go_at_call 9; refine HN.out.mono ?_; rintro e w2 ⟨rfl, b2⟩)
    go_ret
    exact ⟨rfl, b2.out⟩
  have HN : Hid (Calls Try.prog 9 #[.agg #[.int .i64 C.a, .int .i64 C.b, .int .i64 C.c, .int .i64 C.d]] w1 fun e w' => ∃ pb, e = .returned (.tuple #[.pointer (some ⟨pb, 0, none⟩), .int .i64 0]) ∧ Hid (LL w w' pb (adX NX w.heap.size (vB C)) C (fun _ => C) 0)) := l_new w w1 y1.out C hC (adX NX w.heap.size (vB C)) (oneX hb1)
  clear hb1 y1
  go_upto_region 6 with (go_at_call 9; refine HN.out.mono ?_; rintro e w2 ⟨pb, rfl, h2⟩)
  clear HN q0 q1 q2 q3
  go_wp2_with fail
  go_loopw [7] (fun t wr => ∃ k : Nat, t = .int .i64 k ∧ Hid (k ≤ n ∧ ∃ f m, LL w wr pb (adX NX w.heap.size (vB C)) C f m)) (fun t _ => n - (intOf t).toNat)
  case atStart => exact ⟨0, rfl, Nat.zero_le _, _, _, h2.out⟩
  case round =>
    clear h2
    obtain ⟨k, rfl, HK⟩ := hrel
    obtain ⟨f, m, hL0⟩ := HK.out.2
    have hL : Hid (LL w wr pb (adX NX w.heap.size (vB C)) C f m) := hL0
    clear hL0
    by_cases hk : k < n
    · have hk' : (k : Int) < (n : Int) := by omega
      obtain ⟨o, ho⟩ : ∃ o, L[k]? = some o := ⟨L[k]'(by have := HNN.out.1; omega), List.getElem?_eq_getElem _⟩
      obtain ⟨g, f0, eq1, hc⟩ := HNN.out.2 k o ho
      obtain ⟨c0, c1, c2, c3, c4, c5, c6⟩ := hc.below hL.out.bel
      have H15 : Hid (Calls Try.prog 15 #[.pointer (some ⟨pb, 0, none⟩), .int .i64 o.a, .int .i64 o.b, .agg #[.int .i64 o.v.a, .int .i64 o.v.b, .int .i64 o.v.c, .int .i64 o.v.d]] wr.drew fun e w' => ∃ x, e = .returned (.int .i64 x) ∧ Hid (∃ f m, LL w w' pb (adX NX w.heap.size (vB C)) C f m)) := (l_take (hL.out.below (w' := wr.drew) ((Below.refl _ _).drew)) o.a o.b o.v).mono fun e w' h => ⟨_, h.1, _, _, h.2⟩
      have Hk : Hid (k < n) := hk
      subst eq1
      clear hk HK hL ho hc c0
      obtain ⟨kd, a, b, va⟩ := o
      simp only at c1 c2 c3 c4 c5 c6 H15
      go_upto_region 9 with fail
      go_region_with (first | (go_at_call 15; refine H15.out.mono ?_; rintro e w3 ⟨x, rfl, h3⟩))
      all_goals go_wp2_with fail
      all_goals
        have := Hk.out
        refine ⟨⟨k + 1, by simp, by show k + 1 ≤ n; omega, h3.out⟩, ?_⟩
        simp [intOf]
        omega
    · have hk' : decide ((k : Int) < (n : Int)) = false := decide_eq_false (by omega)
      obtain ⟨S, hS, rfl, e2, e3⟩ := hL.out
      have hSl : S.l.length ≤ 8192 := by have := hS.o.n; have := hS.o.l; omega
      have H13 : Hid (Calls Try.prog 13 #[.pointer (some ⟨pb, 0, none⟩)] wr fun e w' => ∃ (pa : Option Addr) (c' : Nat), e = .returned (.slice pa S.l.length c') ∧ Hid (H2 w (w'.alloc (vB S.C)) pb w.heap.size w'.heap.size S (.slice pa S.l.length c') 0) ∧ Bx w' w.heap.size S.C) := by
        refine (steps_any hS.m (by omega)).mono ?_
        rintro e w' ⟨v, rfl, k1, k2, k3⟩
        have h3 := hS.below k2
        have hx : w'.heap[w.heap.size]? = some (vB S.C) := (h3.x _ _ (adX_self _ _ _)).1
        have k4 := k1
        obtain ⟨pa, c', rfl⟩ := k1.shape
        have hB : Below w'.heap.size w' (w'.alloc (vB S.C)) := (Below.refl _ w').alloc (Nat.le_refl _) _
        refine ⟨pa, c', rfl, ⟨h3.below hB, k4.below hB, ?_, Nat.zero_le _, fun q => Nat.lt_irrefl _ (h3.m.lt _ q), fun q => Nat.lt_irrefl _ (k4.lt q), ?_, h3.b.size⟩, hx⟩
        · rw [pv_zero]; exact new0
        · have := (Array.getElem?_eq_some_iff.1 hx).1; omega
      clear HK hL hS e2 e3
      go_upto_region 11 with (go_at_call 13; refine H13.out.mono ?_; rintro e w3 ⟨pa, c', rfl, h3, hx⟩)
      obtain ⟨q0, q1, q2, q3, -, -, -, -, qs, qn⟩ := cells4 hx
      clear H13 hx
      go_upto_region 12 with fail
      generalize w3.alloc (vB S.C) = W3 at *
      generalize w3.heap.size = wb at *
      clear q0 q1 q2 q3 qs qn
      go_wp2_with fail
      go_loopw [10] (fun t wr => ∃ i : Nat, t = .int .i64 i ∧ Hid (H2 w wr pb w.heap.size wb S (.slice pa S.l.length c') i)) (fun t _ => S.l.length - (intOf t).toNat)
      case atStart => exact ⟨0, rfl, h3.out⟩
      case round =>
        clear h3
        obtain ⟨i, rfl, HI⟩ := hrel
        have hx : Bx wr w.heap.size S.C := (HI.out.l.x _ _ (adX_self _ _ _)).1
        obtain ⟨q0, q1, q2, q3, -⟩ := cells4 hx
        obtain ⟨r0, r1, r2, r3, rf0, rf1, rf2, rf3, rs, rn⟩ := cells4 HI.out.b
        obtain ⟨m0, m1, m2, m3⟩ := And.intro (cell_regrown q0) (And.intro (cell_regrown q1) (And.intro (cell_regrown q2) (cell_regrown q3)))
        obtain ⟨p0, p1, p2, p3⟩ := And.intro (cell_regrown r0) (And.intro (cell_regrown r1) (And.intro (cell_regrown r2) (cell_regrown r3)))
        by_cases hi : i < S.l.length
        · have hi' : (i : Int) < (S.l.length : Int) := by omega
          have hi2 : decide ((i : Int) < (S.l.length : Int)) = true := decide_eq_true hi'
          have hi0 : (0 : Int) ≤ (i : Int) := by omega
          have HR := HI.out.r
          obtain ⟨g, c2, ev⟩ := HR.row (by omega)
          injection ev with ev1 _ ev3
          subst ev1
          subst ev3
          obtain ⟨s, hs⟩ : ∃ s, S.l[i]? = some s := ⟨_, List.getElem?_eq_getElem hi⟩
          obtain ⟨s0, s1, s2, s3, s4⟩ := HR.cells hs
          obtain ⟨k0, k1, k2, k3, k4⟩ := And.intro (cell_regrown s0) (And.intro (cell_regrown s1) (And.intro (cell_regrown s2) (And.intro (cell_regrown s3) (cell_regrown s4))))
          obtain ⟨ok1, ok2⟩ := HI.out.l.o.p.st hs
          have hfs : fa S.C S.l s.at' = s.fr := fa_at HI.out.l.o.p.srt hs
          have hnew := HI.out.l.o.p.nod i s hs id
          have H10 : Hid (∀ W, RowKit.Below wr.heap.size wr W → Calls Try.prog 10 #[.agg #[.int .i64 s.fr.a, .int .i64 s.fr.b, .int .i64 s.fr.c, .int .i64 s.fr.d]] W fun e w' => e = .returned (.bool true) ∧ RowKit.Below W.heap.size W w') := fun W _ => by have := rformed_V s.fr W; rwa [ok1] at this
          have H16 : Hid (∀ W, RowKit.Below wr.heap.size wr W → Calls Try.prog 16 #[.agg #[.int .i64 s.fr.a, .int .i64 s.fr.b, .int .i64 s.fr.c, .int .i64 s.fr.d], .agg #[.int .i64 S.C.a, .int .i64 S.C.b, .int .i64 S.C.c, .int .i64 S.C.d]] W fun e w' => e = .returned (.bool true) ∧ RowKit.Below W.heap.size W w') := fun W _ => by have := rfits_V s.fr S.C W; rwa [decide_eq_true ok2] at this
          have H17 : Hid (∀ W, RowKit.Below wr.heap.size wr W → Calls Try.prog 17 #[.pointer (some ⟨pb, 0, none⟩), .int .i64 s.at'] W fun e w' => e = .returned (.agg #[.int .i64 s.fr.a, .int .i64 s.fr.b, .int .i64 s.fr.c, .int .i64 s.fr.d]) ∧ RowKit.Below W.heap.size W w') := fun W b => by
            have := Free_any (HI.out.l.m.below b) HI.out.l.o.p.srt (by omega) s.at'
            rwa [hfs] at this
          have G10 := grown H10
          have G16 := grown H16
          have G17 := grown H17
          have hq1 : ∀ w, (Op.equalIn 10000 23 (.agg #[.int .i64 s.fr.a, .int .i64 s.fr.b, .int .i64 s.fr.c, .int .i64 s.fr.d]) (.agg #[.int .i64 (pv S.C S.l i).a, .int .i64 (pv S.C S.l i).b, .int .i64 (pv S.C S.l i).c, .int .i64 (pv S.C S.l i).d])).run Try.prog w = .ok false w := fun w => by rw [eqV, decide_eq_false hnew]
          have hq2 : ∀ w, (Op.equalIn 10000 23 (.agg #[.int .i64 s.fr.a, .int .i64 s.fr.b, .int .i64 s.fr.c, .int .i64 s.fr.d]) (.agg #[.int .i64 s.fr.a, .int .i64 s.fr.b, .int .i64 s.fr.c, .int .i64 s.fr.d])).run Try.prog w = .ok true w := fun w => by rw [eqV]; simp
          have HPR : Hid (∀ j : Nat, i = j + 1 → ∃ x : Int, wr.cell? ⟨g, j * 5, none⟩ = some (.int .i64 x) ∧ x < s.at') := fun j hj => by
            obtain ⟨u, hu⟩ : ∃ u, S.l[j]? = some u := ⟨_, List.getElem?_eq_getElem (by omega)⟩
            exact ⟨u.at', (HR.cells hu).1, HI.out.l.o.p.srt.lt (by omega) hu hs⟩
          have HST : Hid (∀ W, RowKit.Below wr.heap.size wr W → H2 w ((((W.setCell ⟨wb, 0, none⟩ (.int .i64 s.fr.a)).setCell ⟨wb, 1, none⟩ (.int .i64 s.fr.b)).setCell ⟨wb, 2, none⟩ (.int .i64 s.fr.c)).setCell ⟨wb, 3, none⟩ (.int .i64 s.fr.d)) pb w.heap.size wb S (.slice (some ⟨g, 0, none⟩) S.l.length c') (i + 1)) := fun W b => (HI.out.below b).set hs
          have HCL : Hid (∀ W, RowKit.Below wr.heap.size wr W → (W.cell? ⟨g, i * 5 + 1, none⟩ = some (.int .i64 s.fr.a) ∧ W.cell? ⟨g, i * 5 + 1 + 1, none⟩ = some (.int .i64 s.fr.b) ∧ W.cell? ⟨g, i * 5 + 1 + 2, none⟩ = some (.int .i64 s.fr.c) ∧ W.cell? ⟨g, i * 5 + 1 + 3, none⟩ = some (.int .i64 s.fr.d)) ∧ Bx W wb (pv S.C S.l i)) := fun W b => ⟨((HR.below b).cells hs).2, at_below b (Nat.le_refl _) HI.out.b⟩
          clear H10 H16 H17 ok1 ok2 hfs hnew HR hs hx
          generalize pv S.C S.l i = u at *
          by_cases hz : i = 0
          · subst hz
            go_upto_region 15 with fail
            refine wp_region_quiet_below (by kernel_rfl) (by kernel_rfl) ?_
            repeat (first | go_big_quiet_step (first | (go_at_call 10; exact G10.out _ _) | (go_at_call 16; exact G16.out _ _) | (go_at_call 17; exact G17.out _ _)) | quiet_step (first | (go_at_call 10; exact G10.out _ _) | (go_at_call 16; exact G16.out _ _) | (go_at_call 17; exact G17.out _ _)))
            refine wpQuiet_nil ?_
            intro _ hw'
            obtain ⟨⟨dq, osq⟩, hw''⟩ := hw'
            subst hw''
            obtain ⟨⟨x1, x2, x3, x4⟩, hbb⟩ := HCL.out _ (below_regrown wr dq osq)
            have HST2 := (show Hid (H2 w (((((grow (redrawn wr dq) osq).setCell ⟨wb, 0, none⟩ (.int .i64 s.fr.a)).setCell ⟨wb, 1, none⟩ (.int .i64 s.fr.b)).setCell ⟨wb, 2, none⟩ (.int .i64 s.fr.c)).setCell ⟨wb, 3, none⟩ (.int .i64 s.fr.d)) pb w.heap.size wb S (.slice (some ⟨g, 0, none⟩) S.l.length c') (0 + 1)) from HST.out _ (below_regrown wr dq osq))
            obtain ⟨y0, y1, y2, y3, yf0, yf1, yf2, yf3, ys, yn⟩ := cells4 hbb
            clear m0 m1 m2 m3 p0 p1 p2 p3 q0 q1 q2 q3 r0 r1 r2 r3 rf0 rf1 rf2 rf3 rs rn k0 k1 k2 k3 k4 s0 s1 s2 s3 s4 G10 G16 G17 hq1 hq2 HCL HST hbb
            generalize grow (redrawn wr dq) osq = W4 at *
            go_wp2_with fail
            refine ⟨⟨0 + 1, by simp, HST2.out⟩, ?_⟩
            simp [intOf]
            omega
          · obtain ⟨j, hj⟩ : ∃ j, i = j + 1 := ⟨i - 1, by omega⟩
            obtain ⟨x0, xc, hlt⟩ := HPR.out j hj
            have hj1 : (i : Int) - 1 = (j : Int) := by omega
            have hj2 : (0 : Int) < (i : Int) := by omega
            have hj3 : decide ((0 : Int) < (i : Int)) = true := decide_eq_true hj2
            have hj4 : 0 < i := by omega
            have hj5 : decide (0 < i) = true := decide_eq_true hj4
            have hj6 : (j : Int) < (S.l.length : Int) := by omega
            have hj7 : (0 : Int) ≤ (j : Int) := by omega
            have hj8 : decide (s.at' ≤ x0) = false := decide_eq_false (by omega)
            have hj9 : ¬ s.at' ≤ x0 := by omega
            have hw1 : IntKind.i64.wrap ((i : Int) - 1) = (j : Int) := by rw [IntKind.wrap_i64]; omega
            have xm := cell_regrown xc
            clear hj hz HPR
            go_upto_region 15 with fail
            refine wp_region_quiet_below (by kernel_rfl) (by kernel_rfl) ?_
            repeat (first | go_big_quiet_step (first | (go_at_call 10; exact G10.out _ _) | (go_at_call 16; exact G16.out _ _) | (go_at_call 17; exact G17.out _ _)) | quiet_step (first | (go_at_call 10; exact G10.out _ _) | (go_at_call 16; exact G16.out _ _) | (go_at_call 17; exact G17.out _ _)))
            refine wpQuiet_nil ?_
            intro _ hw'
            obtain ⟨⟨dq, osq⟩, hw''⟩ := hw'
            subst hw''
            obtain ⟨⟨x1, x2, x3, x4⟩, hbb⟩ := HCL.out _ (below_regrown wr dq osq)
            have HST2 := (show Hid (H2 w (((((grow (redrawn wr dq) osq).setCell ⟨wb, 0, none⟩ (.int .i64 s.fr.a)).setCell ⟨wb, 1, none⟩ (.int .i64 s.fr.b)).setCell ⟨wb, 2, none⟩ (.int .i64 s.fr.c)).setCell ⟨wb, 3, none⟩ (.int .i64 s.fr.d)) pb w.heap.size wb S (.slice (some ⟨g, 0, none⟩) S.l.length c') (i + 1)) from HST.out _ (below_regrown wr dq osq))
            obtain ⟨y0, y1, y2, y3, yf0, yf1, yf2, yf3, ys, yn⟩ := cells4 hbb
            clear m0 m1 m2 m3 p0 p1 p2 p3 q0 q1 q2 q3 r0 r1 r2 r3 rf0 rf1 rf2 rf3 rs rn k0 k1 k2 k3 k4 s0 s1 s2 s3 s4 G10 G16 G17 hq1 hq2 HCL HST hbb xm xc
            generalize grow (redrawn wr dq) osq = W4 at *
            go_wp2_with fail
            refine ⟨⟨i + 1, by simp, HST2.out⟩, ?_⟩
            simp [intOf]
            omega
        · have hi' : decide ((i : Int) < (S.l.length : Int)) = false := decide_eq_false (by omega)
          have hi'' : decide (i < S.l.length) = false := decide_eq_false hi
          have hi3 : ¬ (i : Int) < (S.l.length : Int) := by omega
          have hie : i = S.l.length := by have := HI.out.hi; omega
          have hpv : pv S.C S.l i = S.C := by rw [hie]; exact HI.out.l.o.p.fin
          rw [hpv] at r0 r1 r2 r3 p0 p1 p2 p3
          have H17 : Hid (∀ t, fa S.C S.l t = S.C → ∀ W, Below wr.heap.size wr W → Calls Try.prog 17 #[.pointer (some ⟨pb, 0, none⟩), .int .i64 t] W fun e w' => e = .returned (.agg #[.int .i64 S.C.a, .int .i64 S.C.b, .int .i64 S.C.c, .int .i64 S.C.d]) ∧ Below W.heap.size W w') := fun t ht W b => by
            have := Free_any (HI.out.l.m.below b) HI.out.l.o.p.srt (by omega) t
            rwa [ht] at this
          have HA1 : Hid (fa S.C S.l (-1) = S.C) := HI.out.l.o.p.first
          have HB1 : Hid (fa S.C S.l 1099511627776 = S.C) := HI.out.l.o.p.last
          have G17 : Hid (∀ (t : Int) (_ : Hid (fa S.C S.l t = S.C)) d os, Calls Try.prog 17 #[.pointer (some ⟨pb, 0, none⟩), .int .i64 t] (grow (redrawn wr d) os) fun e w'' => e = .returned (.agg #[.int .i64 S.C.a, .int .i64 S.C.b, .int .i64 S.C.c, .int .i64 S.C.d]) ∧ ∃ p : Regrown, w'' = grow (redrawn wr p.d) p.os) := fun t ht d os => (grown (W := wr) (H17.out t ht.out)).out d os
          have hq : ∀ w, (Op.equalIn 10000 23 (.agg #[.int .i64 S.C.a, .int .i64 S.C.b, .int .i64 S.C.c, .int .i64 S.C.d]) (.agg #[.int .i64 S.C.a, .int .i64 S.C.b, .int .i64 S.C.c, .int .i64 S.C.d])).run Try.prog w = .ok true w := fun w => by rw [eqV]; simp
          clear H17 hpv hie hx
          go_upto_region 18 with fail
          refine wp_region_quiet_below (by kernel_rfl) (by kernel_rfl) ?_
          repeat (first | go_big_quiet_step ((go_at_call 17; exact G17.out _ (by assumption) _ _)) | quiet_step ((go_at_call 17; exact G17.out _ (by assumption) _ _)))
          refine wpQuiet_nil ?_
          intro _ hw'
          obtain ⟨⟨dq, osq⟩, hw''⟩ := hw'
          subst hw''
          have HF : Hid (Below w.heap.size w (grow (redrawn wr dq) osq)) := HI.out.l.b.trans ((below_regrown wr dq osq).mono HI.out.l.b.size)
          clear m0 m1 m2 m3 p0 p1 p2 p3 q0 q1 q2 q3 r0 r1 r2 r3 rf0 rf1 rf2 rf3 rs rn
          generalize grow (redrawn wr dq) osq = W4 at *
          go_wp2_with fail
          go_ret
          exact ⟨rfl, HF.out⟩
end Go.Proofs.Ytkfpbpkadkhhnaa
