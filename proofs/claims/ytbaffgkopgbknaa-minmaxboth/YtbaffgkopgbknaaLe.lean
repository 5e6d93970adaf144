/-
  MinmaxBoth's law: the walk.
-/
import Derived.Test.YtbaffgkopgbknaaLd
namespace Go.Proofs.Ytbaffgkopgbknaa
open Go.RowKit Go.Maps

def NoT : Nat → Prop := fun _ => False
/-- keys put in, one by one -/
def LwE (w wr : World) (hb i : Nat) : Prop := ∃ C, Lw w wr hb C i i NoT
set_option maxHeartbeats 4000000 in
theorem both_law (q1 q2 : Option Addr) (c1 c2 : Nat) (L : List K) (ts : List Bool) (w : World) (hL : Hid (Kys w q1 L)) (hT : Hid (Bls w q2 ts)) (hsz : ts.length ≤ 9223372036854775807) :
    Calls Try.prog 5 #[.slice q1 L.length c1, .slice q2 ts.length c2] w fun e w' => e = .returned (.bool true) ∧ Below w.heap.size w w' := by
  have H8 : Hid (∀ w, Calls Try.prog 8 #[] w fun e w' => e = .returned (.bool true) ∧ Below w.heap.size w w') := awake_any
  have H9 : Hid (∀ w, Calls Try.prog 9 #[] w fun e w' => e = .returned (.pointer (some ⟨w.heap.size, 0, none⟩)) ∧ w' = w.alloc (.cells zeroH 58)) := fun w => new_at w
  go_enter Try.func5, Try.ntmps5
  by_cases hn : 500 < L.length
  · have hn' : (500 : Int) < (L.length : Int) := by omega
    go_upto_region 2 with (go_at_call 8; refine (H8.out _).mono ?_; rintro e w1 ⟨rfl, b1⟩)
    have B1 : Hid (Below w.heap.size w w1) := b1
    clear b1
    go_wp2_with (go_at_call 8; refine (H8.out _).mono ?_; rintro e w2 ⟨rfl, b2⟩)
    go_ret
    exact ⟨rfl, B1.out.trans (b2.mono B1.out.size)⟩
  · have hn' : ¬ (500 : Int) < (L.length : Int) := by omega
    go_upto_region 3 with (go_at_call 8; refine (H8.out _).mono ?_; rintro e w1 ⟨rfl, b1⟩)
    have B1 : Hid (Below w.heap.size w w1) := b1
    clear b1
    go_upto_region 4 with (go_at_call 9; refine (H9.out _).mono ?_; rintro e w2 ⟨rfl, rfl⟩)
    have L0 : Hid (LwE w (w1.alloc (.cells zeroH 58)) w1.heap.size 0) := ⟨_, lw_new w w1 NoT B1.out nofun⟩
    generalize w1.alloc (.cells zeroH 58) = W at *
    generalize w1.heap.size = hb at *
    clear B1 H8 H9
    go_wp2_with fail
    go_loopw [6] (fun t wr => ∃ i : Nat, i ≤ L.length ∧ t = .int .i64 i ∧ Hid (LwE w wr hb i)) (fun t _ => L.length - (intOf t).toNat)
    case atStart => exact ⟨0, Nat.zero_le _, rfl, L0.out⟩
    case round =>
      obtain ⟨i, hi, rfl, HE⟩ := hrel
      clear L0
      by_cases hil : i < L.length
      · have hil' : (i : Int) < (L.length : Int) := by omega
        obtain ⟨C, hC⟩ := HE.out
        obtain ⟨g, f, eq1, hok, d0, d1, d2⟩ := (hL.out.keep (w1 := wr) (by exact hC.b)).at hil
        subst eq1
        have H12 : Hid (Calls Try.prog 12 #[.pointer (some ⟨hb, 0, none⟩), .agg #[.int .i64 L[i].a, .int .i64 L[i].b, .int .i64 L[i].c]] wr fun e w' => e = .returned (.tuple #[.int .i64 i, .int .i64 0]) ∧ Hid (LwE w w' hb (i + 1))) := by
          refine (lw_insert hC L[i] hok (by omega)).mono ?_
          rintro e w' ⟨rfl, h1, _⟩
          exact ⟨rfl, _, h1⟩
        clear hC HE
        generalize L[i] = kk at *
        go_wp2_with (go_at_call 12; refine H12.out.mono ?_; first | rintro e w2 rfl h2 | rintro e w2 ⟨rfl, h2⟩)
        exact ⟨⟨i + 1, by omega, by go_num, h2.out⟩, by simp [intOf]; omega⟩
      · have hil' : ¬ (i : Int) < (L.length : Int) := by omega
        go_upto_region 9 with fail
        have E0 : Hid (BoE w ((wr.alloc (.cells #[.int .i64 0, .int .i64 0, .int .i64 0] 45)).alloc (.cells #[.int .i64 0, .int .i64 0, .int .i64 0] 45)) hb wr.heap.size (wr.heap.size + 1) L.length L.length false false) := by
          obtain ⟨C, hC⟩ := HE.out
          have hii : i = L.length := by omega
          rw [hii] at hC
          have e1 : (wr.alloc (.cells #[.int .i64 0, .int .i64 0, .int .i64 0] 45)).heap.size = wr.heap.size + 1 := by simp
          have hb2 := (hC.box (.cells #[.int .i64 0, .int .i64 0, .int .i64 0] 45)).box (.cells #[.int .i64 0, .int .i64 0, .int .i64 0] 45)
          rw [e1] at hb2
          refine ⟨C, kz, kz, hb2.less fun k q => ?_, at_alloc new0, by rw [← e1]; exact new0, by omega, ⟨hC.b.size, by have := hC.b.size; omega⟩, ⟨kz_ok, kz_ok, nofun, nofun, nofun⟩⟩
          rcases q with q | q
          · exact .inl (.inr q)
          · exact .inr q
        generalize (wr.alloc (.cells #[.int .i64 0, .int .i64 0, .int .i64 0] 45)).alloc (.cells #[.int .i64 0, .int .i64 0, .int .i64 0] 45) = V at *
        generalize wr.heap.size = lb at *
        clear HE
        go_wp2_with fail
        go_loopw [9, 10, 11] (fun t9 t10 t11 wr => ∃ (bl ab : Bool) (j m : Nat), t9 = .bool bl ∧ t10 = .bool ab ∧ t11 = .int .i64 j ∧ j + m = L.length ∧ j ≤ ts.length ∧ Hid (BoE w wr hb lb (lb + 1) L.length m bl ab)) (fun _ _ t11 _ => ts.length - (intOf t11).toNat)
        case atStart => exact ⟨false, false, 0, L.length, rfl, rfl, rfl, by omega, Nat.zero_le _, E0.out⟩
        case round =>
          obtain ⟨bl, ab, j, m, rfl, rfl, rfl, hjm, hjt, HE⟩ := hrel
          clear E0
          have H16 : Hid (Calls Try.prog 16 #[.pointer (some ⟨hb, 0, none⟩)] wr fun e w' => e = .returned (.int .i64 m) ∧ w' = wr) := by
            obtain ⟨C, lo, hi, B⟩ := HE.out
            exact lw_len B.l
          have HB : Hid (Below w.heap.size w wr) := by
            obtain ⟨C, lo, hi, B⟩ := HE.out
            exact B.l.b
          by_cases hjl : j < ts.length
          · have hjl' : (j : Int) < (ts.length : Int) := by omega
            by_cases hm : m = 0
            · have hm' : ¬ (0 : Int) < (m : Int) := by omega
              have hfin : (m : Int) = 0 := by omega
              have hle : (L.length : Int) - (ts.length : Int) ≤ 0 := by omega
              have HJ : Hid (m = 0 ∧ j + m = L.length) := ⟨hm, hjm⟩
              clear hm hjm
              go_wp2_with (go_at_call 16; refine H16.out.mono ?_; first | rintro e w2 rfl rfl | rintro e w2 ⟨rfl, rfl⟩)
              all_goals go_ret
              all_goals exact ⟨ret_b (by simp <;> omega), HB.out⟩
            · have hm' : (0 : Int) < (m : Int) := by omega
              obtain ⟨gb, fb, eq2, t0⟩ := (hT.out.keep (w1 := wr) (by exact HB.out)).at hjl
              subst eq2
              go_upto_region 14 with (go_at_call 16; refine H16.out.mono ?_; first | rintro e w2 rfl rfl | rintro e w2 ⟨rfl, rfl⟩)
              obtain ⟨C, lo, hi, HBo⟩ := HE.out
              have K0 : Hid (Bk w (w2.alloc (.cells #[.int .i64 0, .int .i64 0, .int .i64 0] 32)) hb lb (lb + 1) w2.heap.size C L.length m lo hi kz) := HBo.box
              have HV : Hid (Btw C bl ab lo hi) := HBo.v
              have HCK : Hid (∀ (y : Nat) k', C y = some k' → y < 1048576) := fun y k' q => (HBo.l.ok q).2.1
              have t1 : (w2.alloc (.cells #[.int .i64 0, .int .i64 0, .int .i64 0] 32)).cell? ⟨gb, fb + j, none⟩ = some (.bool ts[j]) := keep1c' ((Below.refl _ w2).alloc (Nat.le_refl _) _) t0
              clear HBo HE t0 HB H16
              generalize w2.alloc (.cells #[.int .i64 0, .int .i64 0, .int .i64 0] 32) = W3 at *
              generalize w2.heap.size = kb at *
              cases hts : ts[j] with
              | true =>
                rw [hts] at t1
                obtain ⟨x, k, hext, hok, hpop⟩ := K0.out.pop (s := 0) hm (by decide)
                have H13 : Hid (Calls Try.prog 13 #[.pointer (some ⟨hb, 0, none⟩)] W3 fun e w' => e = .returned (.tuple #[.int .i64 x, .agg #[.int .i64 k.a, .int .i64 k.b, .int .i64 k.c], .int .i64 0]) ∧ Hid (Bk w w' hb lb (lb + 1) kb (C.del x) L.length (m - 1) lo hi kz)) := hpop
                have HM : Hid (Btw (C.del x) true ab k hi ∧ (bl = true → enc lo 0 ≤ enc k 0) ∧ (ab = true → enc k 0 ≤ enc hi 0)) := HV.out.min hext hok HCK.out
                have HOK : Hid (k.ok ∧ lo.ok ∧ hi.ok) := ⟨hok, HV.out.lk, HV.out.hk⟩
                clear hpop hext hok K0 HV HCK
                go_upto_region 15 with fail
                clear t1
                go_upto_region 16 with (go_at_call 13; refine H13.out.mono ?_; (first | rintro e w4 rfl h4 | rintro e w4 ⟨rfl, h4⟩); obtain ⟨_, _, _, kf⟩ := h4.out.c; obtain ⟨z0, z1, z2⟩ := c3 h4.out.z)
                have K5 : Hid (Bk w (st3 w4 kb k) hb lb (lb + 1) kb (C.del x) L.length (m - 1) lo hi k) := h4.out.setz k
                rw [show ((w4.setCell ⟨kb, 0, none⟩ (.int .i64 k.a)).setCell ⟨kb, 1, none⟩ (.int .i64 k.b)).setCell ⟨kb, 2, none⟩ (.int .i64 k.c) = st3 w4 kb k from rfl]
                generalize st3 w4 kb k = W5 at *
                clear kf z0 z1 z2 h4 H13
                cases bl with
                | true =>
                  obtain ⟨⟨X1, X2, X3⟩, F1, F2, F3⟩ := K5.out.c
                  have H15 : Hid (∀ w, Calls Try.prog 15 #[.agg #[.int .i64 lo.a, .int .i64 lo.b, .int .i64 lo.c], .agg #[.int .i64 k.a, .int .i64 k.b, .int .i64 k.c]] w fun e w' => e = .returned (.int .i64 (rc lo k)) ∧ Below w.heap.size w w') := fun w => rcompare_any lo k w HOK.out.2.1 HOK.out.1
                  have hrc : ¬ 0 < rc lo k := rc_le (HM.out.2.1 rfl)
                  generalize rc lo k = z at *
                  obtain ⟨x0, x1, x2, y0, y1, y2⟩ := X2
                  go_upto_region 18 with (go_at_call 15; refine (H15.out _).mono ?_; rintro e w6 ⟨rfl, b6⟩; have K6 : Hid (Bk w w6 hb lb (lb + 1) kb (C.del x) L.length (m - 1) lo hi k) := K5.out.keep b6; clear b6 x0 x1 x2 y0 y1 y2 F1 F2 F3)
                  clear K5 H15 hrc
                  obtain ⟨⟨X1, X2, X3⟩, F1, F2, F3⟩ := K6.out.c
                  obtain ⟨x0, x1, x2, y0, y1, y2⟩ := X2
                  go_upto_region 19 with fail
                  have K7 : Hid (Bk w (st3 w6 lb k) hb lb (lb + 1) kb (C.del x) L.length (m - 1) k hi k) := K6.out.setx k
                  rw [show ((w6.setCell ⟨lb, 0, none⟩ (.int .i64 k.a)).setCell ⟨lb, 1, none⟩ (.int .i64 k.b)).setCell ⟨lb, 2, none⟩ (.int .i64 k.c) = st3 w6 lb k from rfl]
                  generalize st3 w6 lb k = W7 at *
                  clear x0 x1 x2 y0 y1 y2 F1 F2 F3 K6
                  cases ab with
                  | true =>
                    have H15 : Hid (∀ w, Calls Try.prog 15 #[.agg #[.int .i64 k.a, .int .i64 k.b, .int .i64 k.c], .agg #[.int .i64 hi.a, .int .i64 hi.b, .int .i64 hi.c]] w fun e w' => e = .returned (.int .i64 (rc k hi)) ∧ Below w.heap.size w w') := fun w => rcompare_any k hi w HOK.out.1 HOK.out.2.2
                    have hrc : ¬ 0 < rc k hi := rc_le (HM.out.2.2 rfl)
                    generalize rc k hi = z at *
                    obtain ⟨⟨X1, X2, X3⟩, F1, F2, F3⟩ := K7.out.c
                    obtain ⟨x0, x1, x2, y0, y1, y2⟩ := X1
                    clear F1 F2 F3
                    go_wp2_with (go_at_call 15; refine (H15.out _).mono ?_; rintro e w8 ⟨rfl, b8⟩; have K8 : Hid (Bk w w8 hb lb (lb + 1) kb (C.del x) L.length (m - 1) k hi k) := K7.out.keep b8; clear b8 x0 x1 x2 y0 y1 y2)
                    exact ⟨⟨true, true, j + 1, m - 1, rfl, rfl, by go_num, by omega, by omega, K8.out.bo HM.out.1⟩, by simp [intOf]; omega⟩
                  | false =>
                    go_wp2_with fail
                    exact ⟨⟨true, false, j + 1, m - 1, rfl, rfl, by go_num, by omega, by omega, K7.out.bo HM.out.1⟩, by simp [intOf]; omega⟩
                | false =>
                  go_upto_region 18 with fail
                  have K6 : Hid (Bk w W5 hb lb (lb + 1) kb (C.del x) L.length (m - 1) lo hi k) := K5.out
                  clear K5
                  generalize W5 = w6 at *
                  obtain ⟨⟨X1, X2, X3⟩, F1, F2, F3⟩ := K6.out.c
                  obtain ⟨x0, x1, x2, y0, y1, y2⟩ := X2
                  go_upto_region 19 with fail
                  have K7 : Hid (Bk w (st3 w6 lb k) hb lb (lb + 1) kb (C.del x) L.length (m - 1) k hi k) := K6.out.setx k
                  rw [show ((w6.setCell ⟨lb, 0, none⟩ (.int .i64 k.a)).setCell ⟨lb, 1, none⟩ (.int .i64 k.b)).setCell ⟨lb, 2, none⟩ (.int .i64 k.c) = st3 w6 lb k from rfl]
                  generalize st3 w6 lb k = W7 at *
                  clear x0 x1 x2 y0 y1 y2 F1 F2 F3 K6
                  cases ab with
                  | true =>
                    have H15 : Hid (∀ w, Calls Try.prog 15 #[.agg #[.int .i64 k.a, .int .i64 k.b, .int .i64 k.c], .agg #[.int .i64 hi.a, .int .i64 hi.b, .int .i64 hi.c]] w fun e w' => e = .returned (.int .i64 (rc k hi)) ∧ Below w.heap.size w w') := fun w => rcompare_any k hi w HOK.out.1 HOK.out.2.2
                    have hrc : ¬ 0 < rc k hi := rc_le (HM.out.2.2 rfl)
                    generalize rc k hi = z at *
                    obtain ⟨⟨X1, X2, X3⟩, F1, F2, F3⟩ := K7.out.c
                    obtain ⟨x0, x1, x2, y0, y1, y2⟩ := X1
                    clear F1 F2 F3
                    go_wp2_with (go_at_call 15; refine (H15.out _).mono ?_; rintro e w8 ⟨rfl, b8⟩; have K8 : Hid (Bk w w8 hb lb (lb + 1) kb (C.del x) L.length (m - 1) k hi k) := K7.out.keep b8; clear b8 x0 x1 x2 y0 y1 y2)
                    exact ⟨⟨true, true, j + 1, m - 1, rfl, rfl, by go_num, by omega, by omega, K8.out.bo HM.out.1⟩, by simp [intOf]; omega⟩
                  | false =>
                    go_wp2_with fail
                    exact ⟨⟨true, false, j + 1, m - 1, rfl, rfl, by go_num, by omega, by omega, K7.out.bo HM.out.1⟩, by simp [intOf]; omega⟩
              | false =>
                rw [hts] at t1
                obtain ⟨x, k, hext, hok, hpop⟩ := K0.out.pop (s := 1) hm (by decide)
                have H13 : Hid (Calls Try.prog 14 #[.pointer (some ⟨hb, 0, none⟩)] W3 fun e w' => e = .returned (.tuple #[.int .i64 x, .agg #[.int .i64 k.a, .int .i64 k.b, .int .i64 k.c], .int .i64 0]) ∧ Hid (Bk w w' hb lb (lb + 1) kb (C.del x) L.length (m - 1) lo hi kz)) := hpop
                have HM : Hid (Btw (C.del x) bl true lo k ∧ (ab = true → enc k 0 ≤ enc hi 0) ∧ (bl = true → enc lo 0 ≤ enc k 0)) := HV.out.max hext hok HCK.out
                have HOK : Hid (k.ok ∧ lo.ok ∧ hi.ok) := ⟨hok, HV.out.lk, HV.out.hk⟩
                clear hpop hext hok K0 HV HCK
                go_upto_region 20 with fail
                clear t1
                go_upto_region 21 with (go_at_call 14; refine H13.out.mono ?_; (first | rintro e w4 rfl h4 | rintro e w4 ⟨rfl, h4⟩); obtain ⟨_, _, _, kf⟩ := h4.out.c; obtain ⟨z0, z1, z2⟩ := c3 h4.out.z)
                have K5 : Hid (Bk w (st3 w4 kb k) hb lb (lb + 1) kb (C.del x) L.length (m - 1) lo hi k) := h4.out.setz k
                rw [show ((w4.setCell ⟨kb, 0, none⟩ (.int .i64 k.a)).setCell ⟨kb, 1, none⟩ (.int .i64 k.b)).setCell ⟨kb, 2, none⟩ (.int .i64 k.c) = st3 w4 kb k from rfl]
                generalize st3 w4 kb k = W5 at *
                clear kf z0 z1 z2 h4 H13
                cases ab with
                | true =>
                  obtain ⟨⟨X1, X2, X3⟩, F1, F2, F3⟩ := K5.out.c
                  have H15 : Hid (∀ w, Calls Try.prog 15 #[.agg #[.int .i64 hi.a, .int .i64 hi.b, .int .i64 hi.c], .agg #[.int .i64 k.a, .int .i64 k.b, .int .i64 k.c]] w fun e w' => e = .returned (.int .i64 (rc hi k)) ∧ Below w.heap.size w w') := fun w => rcompare_any hi k w HOK.out.2.2 HOK.out.1
                  have hrc : ¬ rc hi k < 0 := rc_ge (HM.out.2.1 rfl)
                  generalize rc hi k = z at *
                  obtain ⟨x0, x1, x2, y0, y1, y2⟩ := X3
                  go_upto_region 23 with (go_at_call 15; refine (H15.out _).mono ?_; rintro e w6 ⟨rfl, b6⟩; have K6 : Hid (Bk w w6 hb lb (lb + 1) kb (C.del x) L.length (m - 1) lo hi k) := K5.out.keep b6; clear b6 x0 x1 x2 y0 y1 y2 F1 F2 F3)
                  clear K5 H15 hrc
                  obtain ⟨⟨X1, X2, X3⟩, F1, F2, F3⟩ := K6.out.c
                  obtain ⟨x0, x1, x2, y0, y1, y2⟩ := X3
                  go_upto_region 24 with fail
                  have K7 : Hid (Bk w (st3 w6 (lb + 1) k) hb lb (lb + 1) kb (C.del x) L.length (m - 1) lo k k) := K6.out.sety k
                  rw [show ((w6.setCell ⟨lb + 1, 0, none⟩ (.int .i64 k.a)).setCell ⟨lb + 1, 1, none⟩ (.int .i64 k.b)).setCell ⟨lb + 1, 2, none⟩ (.int .i64 k.c) = st3 w6 (lb + 1) k from rfl]
                  generalize st3 w6 (lb + 1) k = W7 at *
                  clear x0 x1 x2 y0 y1 y2 F1 F2 F3 K6
                  cases bl with
                  | true =>
                    have H15 : Hid (∀ w, Calls Try.prog 15 #[.agg #[.int .i64 lo.a, .int .i64 lo.b, .int .i64 lo.c], .agg #[.int .i64 k.a, .int .i64 k.b, .int .i64 k.c]] w fun e w' => e = .returned (.int .i64 (rc lo k)) ∧ Below w.heap.size w w') := fun w => rcompare_any lo k w HOK.out.2.1 HOK.out.1
                    have hrc : ¬ 0 < rc lo k := rc_le (HM.out.2.2 rfl)
                    generalize rc lo k = z at *
                    obtain ⟨⟨X1, X2, X3⟩, F1, F2, F3⟩ := K7.out.c
                    obtain ⟨x0, x1, x2, y0, y1, y2⟩ := X1
                    clear F1 F2 F3
                    go_wp2_with (go_at_call 15; refine (H15.out _).mono ?_; rintro e w8 ⟨rfl, b8⟩; have K8 : Hid (Bk w w8 hb lb (lb + 1) kb (C.del x) L.length (m - 1) lo k k) := K7.out.keep b8; clear b8 x0 x1 x2 y0 y1 y2)
                    exact ⟨⟨true, true, j + 1, m - 1, rfl, rfl, by go_num, by omega, by omega, K8.out.bo HM.out.1⟩, by simp [intOf]; omega⟩
                  | false =>
                    go_wp2_with fail
                    exact ⟨⟨false, true, j + 1, m - 1, rfl, rfl, by go_num, by omega, by omega, K7.out.bo HM.out.1⟩, by simp [intOf]; omega⟩
                | false =>
                  go_upto_region 23 with fail
                  have K6 : Hid (Bk w W5 hb lb (lb + 1) kb (C.del x) L.length (m - 1) lo hi k) := K5.out
                  clear K5
                  generalize W5 = w6 at *
                  obtain ⟨⟨X1, X2, X3⟩, F1, F2, F3⟩ := K6.out.c
                  obtain ⟨x0, x1, x2, y0, y1, y2⟩ := X3
                  go_upto_region 24 with fail
                  have K7 : Hid (Bk w (st3 w6 (lb + 1) k) hb lb (lb + 1) kb (C.del x) L.length (m - 1) lo k k) := K6.out.sety k
                  rw [show ((w6.setCell ⟨lb + 1, 0, none⟩ (.int .i64 k.a)).setCell ⟨lb + 1, 1, none⟩ (.int .i64 k.b)).setCell ⟨lb + 1, 2, none⟩ (.int .i64 k.c) = st3 w6 (lb + 1) k from rfl]
                  generalize st3 w6 (lb + 1) k = W7 at *
                  clear x0 x1 x2 y0 y1 y2 F1 F2 F3 K6
                  cases bl with
                  | true =>
                    have H15 : Hid (∀ w, Calls Try.prog 15 #[.agg #[.int .i64 lo.a, .int .i64 lo.b, .int .i64 lo.c], .agg #[.int .i64 k.a, .int .i64 k.b, .int .i64 k.c]] w fun e w' => e = .returned (.int .i64 (rc lo k)) ∧ Below w.heap.size w w') := fun w => rcompare_any lo k w HOK.out.2.1 HOK.out.1
                    have hrc : ¬ 0 < rc lo k := rc_le (HM.out.2.2 rfl)
                    generalize rc lo k = z at *
                    obtain ⟨⟨X1, X2, X3⟩, F1, F2, F3⟩ := K7.out.c
                    obtain ⟨x0, x1, x2, y0, y1, y2⟩ := X1
                    clear F1 F2 F3
                    go_wp2_with (go_at_call 15; refine (H15.out _).mono ?_; rintro e w8 ⟨rfl, b8⟩; have K8 : Hid (Bk w w8 hb lb (lb + 1) kb (C.del x) L.length (m - 1) lo k k) := K7.out.keep b8; clear b8 x0 x1 x2 y0 y1 y2)
                    exact ⟨⟨true, true, j + 1, m - 1, rfl, rfl, by go_num, by omega, by omega, K8.out.bo HM.out.1⟩, by simp [intOf]; omega⟩
                  | false =>
                    go_wp2_with fail
                    exact ⟨⟨false, true, j + 1, m - 1, rfl, rfl, by go_num, by omega, by omega, K7.out.bo HM.out.1⟩, by simp [intOf]; omega⟩
          · have hjl' : ¬ (j : Int) < (ts.length : Int) := by omega
            have hfin : (L.length : Int) - (ts.length : Int) = (m : Int) := by omega
            have HJ : Hid (j + m = L.length ∧ j = ts.length) := ⟨hjm, by omega⟩
            clear hjm
            go_wp2_with (go_at_call 16; refine H16.out.mono ?_; first | rintro e w2 rfl rfl | rintro e w2 ⟨rfl, rfl⟩)
            all_goals go_ret
            all_goals exact ⟨ret_b (by simp <;> omega), HB.out⟩
end Go.Proofs.Ytbaffgkopgbknaa
