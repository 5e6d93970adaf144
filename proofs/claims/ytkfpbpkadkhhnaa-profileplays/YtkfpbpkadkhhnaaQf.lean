/-
  The reference's Least.
-/
import Derived.Test.YtkfpbpkadkhhnaaQb
import Derived.Test.YtkfpbpkadkhhnaaQd
import Derived.Test.YtkfpbpkadkhhnaaQe
namespace Go.Proofs.Ytkfpbpkadkhhnaa
open Go.RowKit Go.Maps

/-- while the reference's Least reckons: the result's box, the box of the least, the row of ends -/
structure LR2 (w wr : World) (mb : Nat) (ev : Value) (E : List Int) (m : V) : Prop where
  bl : Below w.heap.size w wr
  r : wr.heap[w.heap.size]? = some (.cells #[.int .i64 0, .int .i64 0, .int .i64 0, .int .i64 0] 23 (0, 0))
  m : Bx wr mb m
  e : IRow w.heap.size wr ev E
  ne : w.heap.size < mb
theorem LR2.below {w wr w1 : World} {mb : Nat} {ev : Value} {E : List Int} {m : V} (h : LR2 w wr mb ev E m) (b : Below wr.heap.size wr w1) : LR2 w w1 mb ev E m :=
  ⟨h.bl.trans (b.mono h.bl.size), at_below b (Nat.le_refl _) h.r, at_below b (Nat.le_refl _) h.m, h.e.below b, h.ne⟩
theorem LR2.noev {w wr : World} {mb : Nat} {ev : Value} {E : List Int} {m : V} (h : LR2 w wr mb ev E m) : ev.ownBlock ≠ some mb := fun q => by
  rcases h.e.2 with ⟨e0, _⟩ | ⟨g, cap, cur, e0, _, hgg, _⟩
  · rw [e0] at q; cases q
  · rw [e0] at q
    cases q
    rw [h.m] at hgg
    injection hgg with this
    injection this with _ q
    exact absurd q (by decide)
theorem LR2.set {w wr : World} {mb i : Nat} {ev : Value} {E : List Int} {v v' : V} {x : Int} (h : LR2 w wr mb ev E v) (e : (#[Value.int .i64 v.a, .int .i64 v.b, .int .i64 v.c, .int .i64 v.d].setIfInBounds i (.int .i64 x)) = #[Value.int .i64 v'.a, .int .i64 v'.b, .int .i64 v'.c, .int .i64 v'.d]) : LR2 w (wr.setCell ⟨mb, i, none⟩ (.int .i64 x)) mb ev E v' := by
  have hne := h.ne
  refine ⟨h.bl.setCell (by show w.heap.size ≤ mb; omega) _, at_other h.r (by omega), ?_, h.e.keep fun g q => Below.heap_setCell _ _ _ _ (fun e => h.noev (by rw [q]; exact congrArg some e)), hne⟩
  unfold Bx
  rw [setB h.m, e]
theorem LR2.drew {w wr : World} {mb : Nat} {ev : Value} {E : List Int} {m : V} (h : LR2 w wr mb ev E m) : LR2 w wr.drew mb ev E m := h.below ((Below.refl _ _).drew)
set_option maxHeartbeats 4000000 in
set_option maxRecDepth 100000 in
theorem rleast_any {w : World} {rb : Nat} {C : V} {tv : Value} {T : List Opr} (h : RP w rb C tv T) (hO : RO C T) (a b : Int) (hsp : spn a b = true) :
    Calls Try.prog 20 #[.pointer (some ⟨rb, 0, none⟩), .int .i64 a, .int .i64 b] w fun e w' => (∃ m : V, e = .returned (.tuple #[.agg #[.int .i64 m.a, .int .i64 m.b, .int .i64 m.c, .int .i64 m.d], .int .i64 0]) ∧ Lst (fT C T) a b m) ∧ Below w.heap.size w w' := by
  have H34 : Hid (∀ w, Calls Try.prog 34 #[.int .i64 a, .int .i64 b] w fun e w' => e = .returned (.bool true) ∧ w' = w) := fun w => by have := spanned_any w a b; rwa [hsp] at this
  have H24 : Hid (∀ x W, Below w.heap.size w W → Calls Try.prog 24 #[.pointer (some ⟨rb, 0, none⟩), .int .i64 x] W fun e w' => e = .returned (.agg #[.int .i64 (fT C T x).a, .int .i64 (fT C T x).b, .int .i64 (fT C T x).c, .int .i64 (fT C T x).d]) ∧ Below W.heap.size W w') := fun x W b => rfree_any (h.below b) hO x
  have H26 : Hid (∀ W, Below w.heap.size w W → Calls Try.prog 26 #[.pointer (some ⟨rb, 0, none⟩)] W fun e w' => ∃ (p : Option Addr) (c : Nat) (E : List Int), e = .returned (.slice p E.length c) ∧ Hid (IRow W.heap.size w' (.slice p E.length c) E ∧ Ends T E ∧ Below W.heap.size W w')) := fun W b => rends_any (h.below b) hO.n
  have hab : Hid (a < b) := (spn_iff.1 hsp).2.1
  have hTl := hO.n
  clear h hsp hO
  go_enter Try.func20, Try.ntmps20
  go_wp2_with (first | (go_at_call 34; refine (H34.out _).mono ?_; rintro e w1 ⟨rfl, rfl⟩) | (go_at_call 24; refine (H24.out a _ (by go_grown)).mono ?_))
  first | rintro e w2 rfl b2 | rintro e w2 ⟨rfl, b2⟩
  have z2 := at_below b2 (by simp) new0
  have y2 : Hid (Below w.heap.size w w2) := Below.trans (by go_grown) (b2.mono (by simp))
  clear H34 b2
  obtain ⟨m0, hm0⟩ : ∃ m0, m0 = fT C T a := ⟨_, rfl⟩
  have HM0 : Hid (m0 = fT C T a) := hm0
  rw [← hm0]
  clear hm0
  go_upto_region 4 with fail
  obtain ⟨W3, hW3⟩ : ∃ W3, W3 = w2.alloc (vB m0) := ⟨_, rfl⟩
  have hB3 : Below w.heap.size w W3 := by rw [hW3]; exact y2.out.alloc y2.out.size _
  have z3 : W3.heap[w.heap.size]? = some (.cells #[.int .i64 0, .int .i64 0, .int .i64 0, .int .i64 0] 23 (0, 0)) := by rw [hW3]; exact at_alloc z2
  have z4 : Bx W3 w2.heap.size m0 := by rw [hW3]; exact new0
  have hne : w.heap.size < w2.heap.size := (Array.getElem?_eq_some_iff.1 z2).1
  have H26' : Hid (Calls Try.prog 26 #[.pointer (some ⟨rb, 0, none⟩)] W3 fun e w' => ∃ (p : Option Addr) (c : Nat) (E : List Int), e = .returned (.slice p E.length c) ∧ Hid (LR2 w w' w2.heap.size (.slice p E.length c) E m0 ∧ Ends T E)) := by
    refine (H26.out W3 hB3).mono ?_
    rintro e w' ⟨p, c, E, rfl, h9⟩
    obtain ⟨k1, k2, k3⟩ := h9.out
    refine ⟨p, c, E, rfl, ⟨hB3.trans (k3.mono hB3.size), at_below k3 (Nat.le_refl _) z3, at_below k3 (Nat.le_refl _) z4, ?_, hne⟩, k2⟩
    refine ⟨k1.1, k1.2.imp id ?_⟩
    rintro ⟨g, cap, cur, e1, e2, e3⟩
    exact ⟨g, cap, cur, e1, Nat.le_trans hB3.size e2, e3⟩
  rw [← hW3]
  clear hW3 hB3 z3 z4 hne H26 y2 z2
  generalize w2.heap.size = mb at *
  go_upto_region 5 with (go_at_call 26; refine H26'.out.mono ?_; rintro e w3 ⟨p, c, E, rfl, h3⟩)
  clear H26'
  have HEn : Hid (Ends T E) := h3.out.2
  have hEl : E.length ≤ 8192 := by have := HEn.out.l; omega
  obtain ⟨k0, hk0⟩ := isK_ex (m0_srt (C := C) (T := T) HEn.out.r) a
  have HL0 : Hid (LR2 w w3 mb (.slice p E.length c) E m0 ∧ Lri C (M0 C T E) a b k0 0 m0) := ⟨h3.out.1, by
    have := lri_start (C := C) hk0 hab.out
    rw [← fa_k hk0, m0_fa HEn.out, ← HM0.out] at this
    exact this⟩
  clear h3 hk0
  go_wp2_with fail
  go_loopw [10] (fun t10 wr => ∃ (i : Nat) (m : V), t10 = .int .i64 i ∧ i ≤ E.length ∧ Hid (LR2 w wr mb (.slice p E.length c) E m ∧ Lri C (M0 C T E) a b k0 i m)) (fun t10 _ => E.length - (intOf t10).toNat)
  case atStart => exact ⟨0, m0, rfl, Nat.zero_le _, HL0.out⟩
  case round =>
    clear HL0 HM0
    obtain ⟨i, m, rfl, hil, HI⟩ := hrel
    obtain ⟨el, hel⟩ : ∃ el, el = E.length := ⟨_, rfl⟩
    by_cases hi : i < E.length
    · obtain ⟨x, hx⟩ : ∃ x, E[i]? = some x := ⟨_, List.getElem?_eq_getElem hi⟩
      obtain ⟨g9, c9, ep⟩ := HI.out.1.e.row (by omega)
      injection ep with ep ep2 ep3
      subst ep
      clear ep2 ep3
      have sx := HI.out.1.e.cell hx
      have hi' : (i : Int) < (E.length : Int) := by omega
      have hm0x := m0_at (C := C) (T := T) hx
      by_cases hin : a < x ∧ x < b
      · have hg1 : decide (a < x) = true := decide_eq_true hin.1
        have hg2 : decide (x < b) = true := decide_eq_true hin.2
        obtain ⟨z, hz⟩ : ∃ z, z = fT C T x := ⟨_, rfl⟩
        have HST : Hid (Lri C (M0 C T E) a b k0 (i + 1) (m.mn z)) := by have := HI.out.2.step (m0_srt HEn.out.r) hm0x hin; rw [hz]; exact this
        have H24' : Hid (Calls Try.prog 24 #[.pointer (some ⟨rb, 0, none⟩), .int .i64 x] wr fun e w' => e = .returned (.agg #[.int .i64 z.a, .int .i64 z.b, .int .i64 z.c, .int .i64 z.d]) ∧ Hid (LR2 w (w'.alloc (vB z)) mb (.slice (some ⟨g9, 0, none⟩) E.length c) E m ∧ Bx (w'.alloc (vB z)) w'.heap.size z ∧ w'.heap.size ≠ mb)) := by
          refine (H24.out x wr HI.out.1.bl).mono ?_
          rintro e w' ⟨rfl, b9⟩
          have k9 := HI.out.1.below b9
          refine ⟨by rw [hz], k9.below ((Below.refl _ _).alloc (Nat.le_refl _) _), new0, ?_⟩
          have := (Array.getElem?_eq_some_iff.1 k9.m).1
          omega
        clear hz hx hm0x hin hel
        go_upto_region 10 with (go_at_call 24; refine H24'.out.mono ?_; rintro e w4 ⟨rfl, h4⟩)
        have hzb : Hid (w4.heap.size ≠ mb) := h4.out.2.2
        have HI0 : Hid (LR2 w (w4.alloc (vB z)) mb (.slice (some ⟨g9, 0, none⟩) E.length c) E m ∧ Bx (w4.alloc (vB z)) w4.heap.size z) := ⟨h4.out.1, h4.out.2.1⟩
        generalize w4.alloc (vB z) = W4 at *
        generalize w4.heap.size = zb at *
        have HM2 : Hid (mix 0 m (m.mn z) = m ∧ mix 4 m (m.mn z) = m.mn z) := ⟨by simp [mix], by simp [mix]⟩
        clear h4 H24' HI
        go_wp2_with fail
        go_loopw [12] (fun t12 wr => ∃ k : Nat, t12 = .int .i64 k ∧ k ≤ 4 ∧ Hid (LR2 w wr mb (.slice (some ⟨g9, 0, none⟩) E.length c) E (mix k m (m.mn z)) ∧ Bx wr zb z)) (fun t12 _ => 4 - (intOf t12).toNat)
        case atStart => exact ⟨0, rfl, by omega, by have := HI0.out; rw [← HM2.out.1] at this; exact this⟩
        case round =>
          clear HI0
          obtain ⟨k, rfl, hk4, HK⟩ := hrel
          by_cases hk : k = 4
          · subst hk
            have HF : Hid (LR2 w wr mb (.slice (some ⟨g9, 0, none⟩) E.length c) E (m.mn z) ∧ Lri C (M0 C T E) a b k0 (i + 1) (m.mn z)) := ⟨by have := HK.out.1; rw [HM2.out.2] at this; exact this, HST.out⟩
            go_wp2_with fail
            refine ⟨⟨i + 1, _, by simp, hi, HF.out⟩, ?_⟩
            simp [intOf]
            omega
          · obtain ⟨q0, q1, q2, q3, qf0, qf1, qf2, qf3, qs, qn⟩ := cells4 HK.out.1.m
            obtain ⟨z0, z1, z2, z3, -⟩ := cells4 HK.out.2
            have hzm : ¬ zb = mb := hzb.out
            obtain hk | hk | hk | hk : k = 0 ∨ k = 1 ∨ k = 2 ∨ k = 3 := by omega
            · subst hk
              have HN : Hid (LR2 w ((wr.setCell ⟨mb, 0, none⟩ (.int .i64 (min m.a z.a))).drew) mb (.slice (some ⟨g9, 0, none⟩) E.length c) E (mix 1 m (m.mn z)) ∧ Bx ((wr.setCell ⟨mb, 0, none⟩ (.int .i64 (min m.a z.a))).drew) zb z) := ⟨(HK.out.1.set rfl).drew, at_other HK.out.2 hzb.out⟩
              simp [mix] at q0
              by_cases hle : m.a ≤ z.a
              · rw [Int.min_eq_left hle] at HN
                have hlt : ¬ z.a < m.a := by omega
                go_wp2_with fail
                go_region
                all_goals go_wp2_with fail
                all_goals
                refine ⟨⟨1, rfl, by omega, HN.out⟩, ?_⟩
                simp [intOf]
              · rw [Int.min_eq_right (by omega)] at HN
                have hlt : z.a < m.a := by omega
                go_wp2_with fail
                go_region
                all_goals go_wp2_with fail
                all_goals
                refine ⟨⟨1, rfl, by omega, HN.out⟩, ?_⟩
                simp [intOf]
            · subst hk
              have HN : Hid (LR2 w ((wr.setCell ⟨mb, 1, none⟩ (.int .i64 (min m.b z.b))).drew) mb (.slice (some ⟨g9, 0, none⟩) E.length c) E (mix 2 m (m.mn z)) ∧ Bx ((wr.setCell ⟨mb, 1, none⟩ (.int .i64 (min m.b z.b))).drew) zb z) := ⟨(HK.out.1.set rfl).drew, at_other HK.out.2 hzb.out⟩
              simp [mix] at q1
              by_cases hle : m.b ≤ z.b
              · rw [Int.min_eq_left hle] at HN
                have hlt : ¬ z.b < m.b := by omega
                go_wp2_with fail
                go_region
                all_goals go_wp2_with fail
                all_goals
                refine ⟨⟨2, rfl, by omega, HN.out⟩, ?_⟩
                simp [intOf]
              · rw [Int.min_eq_right (by omega)] at HN
                have hlt : z.b < m.b := by omega
                go_wp2_with fail
                go_region
                all_goals go_wp2_with fail
                all_goals
                refine ⟨⟨2, rfl, by omega, HN.out⟩, ?_⟩
                simp [intOf]
            · subst hk
              have HN : Hid (LR2 w ((wr.setCell ⟨mb, 2, none⟩ (.int .i64 (min m.c z.c))).drew) mb (.slice (some ⟨g9, 0, none⟩) E.length c) E (mix 3 m (m.mn z)) ∧ Bx ((wr.setCell ⟨mb, 2, none⟩ (.int .i64 (min m.c z.c))).drew) zb z) := ⟨(HK.out.1.set rfl).drew, at_other HK.out.2 hzb.out⟩
              simp [mix] at q2
              by_cases hle : m.c ≤ z.c
              · rw [Int.min_eq_left hle] at HN
                have hlt : ¬ z.c < m.c := by omega
                go_wp2_with fail
                go_region
                all_goals go_wp2_with fail
                all_goals
                refine ⟨⟨3, rfl, by omega, HN.out⟩, ?_⟩
                simp [intOf]
              · rw [Int.min_eq_right (by omega)] at HN
                have hlt : z.c < m.c := by omega
                go_wp2_with fail
                go_region
                all_goals go_wp2_with fail
                all_goals
                refine ⟨⟨3, rfl, by omega, HN.out⟩, ?_⟩
                simp [intOf]
            · subst hk
              have HN : Hid (LR2 w ((wr.setCell ⟨mb, 3, none⟩ (.int .i64 (min m.d z.d))).drew) mb (.slice (some ⟨g9, 0, none⟩) E.length c) E (mix 4 m (m.mn z)) ∧ Bx ((wr.setCell ⟨mb, 3, none⟩ (.int .i64 (min m.d z.d))).drew) zb z) := ⟨(HK.out.1.set rfl).drew, at_other HK.out.2 hzb.out⟩
              simp [mix] at q3
              by_cases hle : m.d ≤ z.d
              · rw [Int.min_eq_left hle] at HN
                have hlt : ¬ z.d < m.d := by omega
                go_wp2_with fail
                go_region
                all_goals go_wp2_with fail
                all_goals
                refine ⟨⟨4, rfl, by omega, HN.out⟩, ?_⟩
                simp [intOf]
              · rw [Int.min_eq_right (by omega)] at HN
                have hlt : z.d < m.d := by omega
                go_wp2_with fail
                go_region
                all_goals go_wp2_with fail
                all_goals
                refine ⟨⟨4, rfl, by omega, HN.out⟩, ?_⟩
                simp [intOf]
      · have HF : Hid (LR2 w wr mb (.slice (some ⟨g9, 0, none⟩) E.length c) E m ∧ Lri C (M0 C T E) a b k0 (i + 1) m) := ⟨HI.out.1, HI.out.2.skip hm0x hin⟩
        clear hx hm0x hel
        by_cases d1 : a < x
        · have d2 : ¬ x < b := fun q => hin ⟨d1, q⟩
          clear hin
          go_wp2_with fail
          refine ⟨⟨i + 1, _, by simp, hi, HF.out⟩, ?_⟩
          simp [intOf]
          omega
        · clear hin
          go_wp2_with fail
          refine ⟨⟨i + 1, _, by simp, hi, HF.out⟩, ?_⟩
          simp [intOf]
          omega
    · have hi' : ¬ (i : Int) < (E.length : Int) := by omega
      have HF : Hid (Lst (fT C T) a b m) := by
        have h9 := HI.out.2
        rw [show i = (M0 C T E).length by rw [m0_length]; omega] at h9
        exact (h9.done (m0_srt HEn.out.r)).congr fun u => m0_fa HEn.out u
      obtain ⟨q0, q1, q2, q3, -⟩ := cells4 HI.out.1.m
      obtain ⟨r0, r1, r2, r3, rf0, rf1, rf2, rf3, rs, rn⟩ := cells4 HI.out.1.r
      clear hel
      go_wp2_with fail
      have r := at_set4 (v0 := .int .i64 m.a) (v1 := .int .i64 m.b) (v2 := .int .i64 m.c) (v3 := .int .i64 m.d) HI.out.1.r
      obtain ⟨x0, x1, x2, x3, -⟩ := cells4 r
      refine bodyPost_ret (v := .tuple #[.agg #[.int .i64 m.a, .int .i64 m.b, .int .i64 m.c, .int .i64 m.d], .int .i64 0]) (by rw [results_cell_tmp rfl]; simp [go_sem, x0, x1, x2, x3]) rfl ⟨⟨m, rfl, HF.out⟩, ?_⟩
      exact below_set4 HI.out.1.bl (Nat.le_refl _) _ _ _ _
end Go.Proofs.Ytkfpbpkadkhhnaa
