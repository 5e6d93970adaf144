/-
  The reference's Free.
-/
import Derived.Test.YtkfpbpkadkhhnaaQa
namespace Go.Proofs.Ytkfpbpkadkhhnaa
open Go.RowKit Go.Maps

def mix (k : Nat) (x y : V) : V := ⟨if 0 < k then y.a else x.a, if 1 < k then y.b else x.b, if 2 < k then y.c else x.c, if 3 < k then y.d else x.d⟩
/-- while Free reckons -/
structure FQ (w wr : World) (mb : Nat) (v : V) : Prop where
  bl : Below w.heap.size w wr
  r : wr.heap[w.heap.size]? = some (.cells #[.int .i64 0, .int .i64 0, .int .i64 0, .int .i64 0] 23 (0, 0))
  m : Bx wr mb v
theorem FQ.set {w wr : World} {mb i : Nat} {v v' : V} {x : Int} (h : FQ w wr mb v) (hne : w.heap.size < mb) (e : (#[Value.int .i64 v.a, .int .i64 v.b, .int .i64 v.c, .int .i64 v.d].setIfInBounds i (.int .i64 x)) = #[Value.int .i64 v'.a, .int .i64 v'.b, .int .i64 v'.c, .int .i64 v'.d]) : FQ w (wr.setCell ⟨mb, i, none⟩ (.int .i64 x)) mb v' := by
  refine ⟨h.bl.setCell (by show w.heap.size ≤ mb; omega) _, at_other h.r (by omega), ?_⟩
  unfold Bx
  rw [setB h.m, e]
theorem FQ.drew {w wr : World} {mb : Nat} {v : V} (h : FQ w wr mb v) : FQ w wr.drew mb v := ⟨h.bl.drew, h.r, h.m⟩
set_option maxHeartbeats 4000000 in
theorem rfree_any {w : World} {rb : Nat} {C : V} {tv : Value} {T : List Opr} (h : RP w rb C tv T) (hO : RO C T) (t : Int) :
    Calls Try.prog 24 #[.pointer (some ⟨rb, 0, none⟩), .int .i64 t] w fun e w' => e = .returned (.agg #[.int .i64 (fT C T t).a, .int .i64 (fT C T t).b, .int .i64 (fT C T t).c, .int .i64 (fT C T t).d]) ∧ Below w.heap.size w w' := by
  obtain ⟨c0, c1, c2, c3, c4⟩ := h.cells
  have hlt := h.lt rb (.inl rfl)
  have hne : ¬ rb = w.heap.size := by omega
  have HM : Hid (RP w rb C tv T) := h
  have HO : Hid (RO C T) := hO
  have hn4 := hO.n
  clear h hO
  go_enter Try.func24, Try.ntmps24
  go_wp2_with fail
  have HQ : Hid (FQ w ((w.alloc (.cells #[.int .i64 0, .int .i64 0, .int .i64 0, .int .i64 0] 23)).alloc (vB C)) (w.heap.size + 1) (fT C (T.take 0) t)) := ⟨by go_grown, at_alloc new0, new1⟩
  generalize (w.alloc (.cells #[.int .i64 0, .int .i64 0, .int .i64 0, .int .i64 0] 23)).alloc (vB C) = W1 at *
  obtain ⟨mb, hmb, hmb'⟩ : ∃ mb, mb = w.heap.size + 1 ∧ Hid (w.heap.size < mb) := ⟨_, rfl, by show w.heap.size < w.heap.size + 1; omega⟩
  have HQ' : Hid (FQ w W1 mb (fT C (T.take 0) t)) := by rw [hmb]; exact HQ.out
  rw [← hmb]
  clear hmb HQ c0 c1 c2 c3 c4
  generalize hTn : T.length = n at *
  have HTn : Hid (T.length = n) := hTn
  clear hTn
  go_loopw [6] (fun t6 wr => ∃ i : Nat, t6 = .int .i64 i ∧ i ≤ n ∧ Hid (FQ w wr mb (fT C (T.take i) t))) (fun t6 _ => n - (intOf t6).toNat)
  case atStart => exact ⟨0, rfl, Nat.zero_le _, HQ'.out⟩
  case round =>
    clear HQ'
    obtain ⟨i, rfl, hin, HQ⟩ := hrel
    have hM := HM.out.below HQ.out.bl
    by_cases hi : i < n
    · have hi' : (i : Int) < (n : Int) := by omega
      obtain ⟨o, ho⟩ : ∃ o, T[i]? = some o := ⟨_, List.getElem?_eq_getElem (by have := HTn.out; omega)⟩
      obtain ⟨g, c, e0⟩ := hM.rw.row (by have := HTn.out; omega)
      have c4 := hM.cells.2.2.2.2
      have hR := hM.rw
      rw [e0] at c4 hR
      rw [HTn.out] at c4
      obtain ⟨s0, s1, s2, s3, s4, s5⟩ := hR.cells ho
      have hgm : Hid (g ≠ mb) := fun e => by
        obtain ⟨cs, q⟩ := hR.blk
        rw [e, HQ.out.m] at q
        injection q with q
        injection q with _ q
        exact absurd q (by decide)
      have hrm : Hid (rb ≠ mb) := fun e => by
        have := hM.hp
        rw [e, HQ.out.m] at this
        injection this with this
        injection this with _ this
        exact absurd this (by decide)
      have hsc := fT_succ (C := C) ho t
      obtain ⟨x, hx⟩ : ∃ x, x = fT C (T.take i) t := ⟨_, rfl⟩
      have ok1 := okV (HO.out.ok i t).1
      rw [← hx] at hsc ok1
      have HQ1 : Hid (FQ w wr mb x) := by rw [hx]; exact HQ.out
      clear HQ e0
      by_cases hh : o.a ≤ t ∧ t < o.b
      · rw [if_pos hh] at hsc
        have ok2 := okV (HO.out.ok (i + 1) t).1
        rw [hsc] at ok2
        have d1 : decide (o.a ≤ t) = true := decide_eq_true hh.1
        have d2 : decide (t < o.b) = true := decide_eq_true hh.2
        have HS : Hid (fT C (T.take (i + 1)) t = x.sub o.v) := hsc
        have HX0 : Hid (x = fT C (T.take i) t) := hx
        obtain ⟨y, hy⟩ : ∃ y, y = x.sub o.v := ⟨_, rfl⟩
        have hy1 : y.a = x.a - o.v.a ∧ y.b = x.b - o.v.b ∧ y.c = x.c - o.v.c ∧ y.d = x.d - o.v.d := by rw [hy]; exact ⟨rfl, rfl, rfl, rfl⟩
        rw [← hy] at ok2 HS
        have w0' : IntKind.i64.wrap (x.a - o.v.a) = y.a := by rw [IntKind.wrap_i64]; omega
        have w1' : IntKind.i64.wrap (x.b - o.v.b) = y.b := by rw [IntKind.wrap_i64]; omega
        have w2' : IntKind.i64.wrap (x.c - o.v.c) = y.c := by rw [IntKind.wrap_i64]; omega
        have w3' : IntKind.i64.wrap (x.d - o.v.d) = y.d := by rw [IntKind.wrap_i64]; omega
        have HM2 : Hid (mix 0 x y = x ∧ mix 4 x y = y) := ⟨by simp [mix], by simp [mix]⟩
        have HC : Hid (∀ W, FQ w W mb (mix 0 x y) ∨ True → Below w.heap.size w W → W.cell? ⟨rb, 4, none⟩ = some (.slice (some ⟨g, 0, none⟩) n c) ∧ TC W g i o) := fun W _ b => by
          have h1 := HM.out.below b
          have h2 := h1.rw
          have h3 := h1.cells.2.2.2.2
          obtain ⟨g', c', e'⟩ := h2.row (by have := HTn.out; omega)
          have c4' := c4
          rw [e'] at h2 h3
          have hh4 := hM.cells.2.2.2.2
          rw [e'] at hh4
          rw [hh4] at c4'
          injection c4' with c4'
          injection c4' with e1 e2 e3
          injection e1 with e1
          injection e1 with e1 _ _
          subst e1
          subst e3
          rw [e2] at h3
          exact ⟨h3, h2.cells ho⟩
        clear hx hsc hy hy1 ok1 ok2 hR ho hM
        go_wp2_with fail
        go_loopw [7] (fun t7 wr => ∃ k : Nat, t7 = .int .i64 k ∧ k ≤ 4 ∧ Hid (FQ w wr mb (mix k x y))) (fun t7 _ => 4 - (intOf t7).toNat)
        case atStart => exact ⟨0, rfl, by omega, by show FQ w _ mb (mix 0 x y); rw [HM2.out.1]; exact HQ1.out⟩
        case round =>
          clear HQ1 s0 s1 s2 s3 s4 s5 c4
          obtain ⟨k, rfl, hk4, HK⟩ := hrel
          obtain ⟨c4, s0, s1, s2, s3, s4, s5⟩ := HC.out wr (.inr trivial) HK.out.bl
          obtain ⟨q0, q1, q2, q3, qf0, qf1, qf2, qf3, qs, qn⟩ := cells4 HK.out.m
          by_cases hk : k = 4
          · subst hk
            have HF : Hid (FQ w wr mb (fT C (T.take (i + 1)) t)) := by
              have := HK.out
              rw [HM2.out.2] at this
              show FQ w wr mb _
              rw [HS.out]
              exact this
            go_wp2_with fail
            refine ⟨⟨i + 1, by simp, hi, HF.out⟩, ?_⟩
            simp [intOf]
            omega
          · obtain hk | hk | hk | hk : k = 0 ∨ k = 1 ∨ k = 2 ∨ k = 3 := by omega
            · subst hk
              have HN : Hid (FQ w ((wr.setCell ⟨mb, 0, none⟩ (.int .i64 y.a)).drew) mb (mix 1 x y)) := (HK.out.set hmb'.out rfl).drew
              simp [mix] at q0
              go_wp2_with fail
              go_region
              all_goals go_wp2_with fail
              all_goals
                refine ⟨⟨1, rfl, by omega, HN.out⟩, ?_⟩
                simp [intOf]
            · subst hk
              have HN : Hid (FQ w ((wr.setCell ⟨mb, 1, none⟩ (.int .i64 y.b)).drew) mb (mix 2 x y)) := (HK.out.set hmb'.out rfl).drew
              simp [mix] at q1
              go_wp2_with fail
              go_region
              all_goals go_wp2_with fail
              all_goals
                refine ⟨⟨2, rfl, by omega, HN.out⟩, ?_⟩
                simp [intOf]
            · subst hk
              have HN : Hid (FQ w ((wr.setCell ⟨mb, 2, none⟩ (.int .i64 y.c)).drew) mb (mix 3 x y)) := (HK.out.set hmb'.out rfl).drew
              simp [mix] at q2
              go_wp2_with fail
              go_region
              all_goals go_wp2_with fail
              all_goals
                refine ⟨⟨3, rfl, by omega, HN.out⟩, ?_⟩
                simp [intOf]
            · subst hk
              have HN : Hid (FQ w ((wr.setCell ⟨mb, 3, none⟩ (.int .i64 y.d)).drew) mb (mix 4 x y)) := (HK.out.set hmb'.out rfl).drew
              simp [mix] at q3
              go_wp2_with fail
              go_region
              all_goals go_wp2_with fail
              all_goals
                refine ⟨⟨4, rfl, by omega, HN.out⟩, ?_⟩
                simp [intOf]
      · rw [if_neg hh] at hsc
        have HQ2 : Hid (FQ w wr mb (fT C (T.take (i + 1)) t)) := by show FQ w wr mb _; rw [hsc]; exact HQ1.out
        clear hx hsc HQ1 hR ho hM
        by_cases d1 : o.a ≤ t
        · have d2 : ¬ t < o.b := fun q => hh ⟨d1, q⟩
          go_wp2_with fail
          refine ⟨⟨i + 1, by simp, hi, HQ2.out⟩, ?_⟩
          simp [intOf]
          omega
        · go_wp2_with fail
          refine ⟨⟨i + 1, by simp, hi, HQ2.out⟩, ?_⟩
          simp [intOf]
          omega
    · have hie : i = n := by omega
      obtain ⟨pa, c, e0⟩ := hM.rw.shape
      have c4 := hM.cells.2.2.2.2
      rw [e0, HTn.out] at c4
      have HF : Hid (FQ w wr mb (fT C T t)) := by
        have := HQ.out
        rw [hie, ← HTn.out, List.take_length] at this
        exact this
      obtain ⟨q0, q1, q2, q3, -⟩ := cells4 HF.out.m
      obtain ⟨r0, r1, r2, r3, rf0, rf1, rf2, rf3, rs, rn⟩ := cells4 HF.out.r
      have hi' : ¬ (i : Int) < (n : Int) := by omega
      clear hM e0 HQ
      go_wp2_with fail
      have r := at_set4 (v0 := .int .i64 (fT C T t).a) (v1 := .int .i64 (fT C T t).b) (v2 := .int .i64 (fT C T t).c) (v3 := .int .i64 (fT C T t).d) HF.out.r
      obtain ⟨x0, x1, x2, x3, -⟩ := cells4 r
      refine bodyPost_ret (v := .agg #[.int .i64 (fT C T t).a, .int .i64 (fT C T t).b, .int .i64 (fT C T t).c, .int .i64 (fT C T t).d]) (by rw [results_cell1 rfl]; simp [go_sem, x0, x1, x2, x3]) rfl ⟨rfl, ?_⟩
      exact below_set4 HF.out.bl (Nat.le_refl _) _ _ _ _
end Go.Proofs.Ytkfpbpkadkhhnaa
