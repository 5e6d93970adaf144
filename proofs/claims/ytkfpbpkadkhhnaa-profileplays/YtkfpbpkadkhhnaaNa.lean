/-
  The reference's calls on the zero profile.
-/
import Derived.Test.YtkfpbpkadkhhnaaLc
import Derived.Test.YtkfpbpkadkhhnaaPe
namespace Go.Proofs.Ytkfpbpkadkhhnaa
open Go.RowKit Go.Maps

/-- the reference's zero profile -/
def RZ (w : World) (rb : Nat) : Prop := w.heap[rb]? = some (.cells #[.int .i64 0, .int .i64 0, .int .i64 0, .int .i64 0, .slice none 0 0] 34 (0, 0))
theorem RZ.below {w w1 : World} {rb : Nat} (h : RZ w rb) (b : Below w.heap.size w w1) : RZ w1 rb := at_below b (Nat.le_refl _) h
theorem RZ.cells {w : World} {rb : Nat} (h : RZ w rb) : w.cell? ⟨rb, 0, none⟩ = some (.int .i64 0) ∧ w.cell? ⟨rb, 1, none⟩ = some (.int .i64 0) ∧ w.cell? ⟨rb, 2, none⟩ = some (.int .i64 0) ∧ w.cell? ⟨rb, 3, none⟩ = some (.int .i64 0) ∧ w.cell? ⟨rb, 4, none⟩ = some (.slice none 0 0) ∧ rb < w.heap.size := by
  refine ⟨?_, ?_, ?_, ?_, ?_, (Array.getElem?_eq_some_iff.1 h).1⟩ <;> (rw [cell_of h]; rfl)
set_option maxHeartbeats 1000000 in
theorem rfree_nil (w : World) (rb : Nat) (t : Int) (h : RZ w rb) : Calls Try.prog 24 #[.pointer (some ⟨rb, 0, none⟩), .int .i64 t] w fun e w' => e = .returned (.agg #[.int .i64 0, .int .i64 0, .int .i64 0, .int .i64 0]) ∧ Below w.heap.size w w' := by
  obtain ⟨c0, c1, c2, c3, c4, hlt⟩ := h.cells
  have hne : ¬ rb = w.heap.size := by omega
  clear h
  go_enter Try.func24, Try.ntmps24
  go_wp2_with fail
  go_rounds 1
  refine bodyPost_ret (v := .agg #[.int .i64 0, .int .i64 0, .int .i64 0, .int .i64 0]) (by rw [results_cell1 rfl]; go_simp) rfl ⟨rfl, ?_⟩
  go_grown
set_option maxHeartbeats 1000000 in
theorem rends_nil (w : World) (rb : Nat) (h : RZ w rb) : Calls Try.prog 26 #[.pointer (some ⟨rb, 0, none⟩)] w fun e w' => e = .returned (.slice none 0 0) ∧ w' = w := by
  obtain ⟨c0, c1, c2, c3, c4, hlt⟩ := h.cells
  clear h
  go_enter Try.func26, Try.ntmps26
  go_wp2_with fail
  go_rounds 1
  go_returns
  exact ⟨rfl, rfl⟩
theorem spanned_any (w : World) (a b : Int) : Calls Try.prog 34 #[.int .i64 a, .int .i64 b] w fun e w' => e = .returned (.bool (spn a b)) ∧ w' = w := by
  go_enter Try.func34, Try.ntmps34
  go_wp2_with fail
  all_goals (go_returns; refine ⟨congrArg (fun b => Ending.returned (Value.bool b)) ?_, rfl⟩)
  all_goals (unfold spn; rw [Bool.eq_iff_iff]; simp; omega)
set_option maxHeartbeats 1000000 in
theorem rleast_bad (w : World) (p : Value) (a b : Int) (hs : spn a b = false) : Calls Try.prog 20 #[p, .int .i64 a, .int .i64 b] w fun e w' => e = .returned (.tuple #[.agg #[.int .i64 0, .int .i64 0, .int .i64 0, .int .i64 0], .int .i64 2]) ∧ Below w.heap.size w w' := by
  have H : Hid (∀ w, Calls Try.prog 34 #[.int .i64 a, .int .i64 b] w fun e w' => e = .returned (.bool false) ∧ w' = w) := fun w => by have := spanned_any w a b; rwa [hs] at this
  clear hs
  go_enter Try.func20, Try.ntmps20
  go_wp2_with (go_at_call 34; refine (H.out _).mono ?_; rintro e w1 ⟨rfl, rfl⟩)
  refine bodyPost_ret (v := .tuple #[.agg #[.int .i64 0, .int .i64 0, .int .i64 0, .int .i64 0], .int .i64 2]) (by rw [results_cell_tmp rfl]; go_simp) rfl ⟨rfl, ?_⟩
  go_grown
set_option maxHeartbeats 1000000 in
theorem rleast_nil (w : World) (rb : Nat) (a b : Int) (h : RZ w rb) (hs : spn a b = true) : Calls Try.prog 20 #[.pointer (some ⟨rb, 0, none⟩), .int .i64 a, .int .i64 b] w fun e w' => e = .returned (.tuple #[.agg #[.int .i64 0, .int .i64 0, .int .i64 0, .int .i64 0], .int .i64 0]) ∧ Below w.heap.size w w' := by
  have H : Hid (∀ w, Calls Try.prog 34 #[.int .i64 a, .int .i64 b] w fun e w' => e = .returned (.bool true) ∧ w' = w) := fun w => by have := spanned_any w a b; rwa [hs] at this
  have H24 : Hid (∀ W, Below w.heap.size w W → Calls Try.prog 24 #[.pointer (some ⟨rb, 0, none⟩), .int .i64 a] W fun e w' => e = .returned (.agg #[.int .i64 0, .int .i64 0, .int .i64 0, .int .i64 0]) ∧ Below W.heap.size W w') := fun W b => rfree_nil W rb a (h.below b)
  have H26 : Hid (∀ W, Below w.heap.size w W → Calls Try.prog 26 #[.pointer (some ⟨rb, 0, none⟩)] W fun e w' => e = .returned (.slice none 0 0) ∧ w' = W) := fun W b => rends_nil W rb (h.below b)
  clear hs h
  go_enter Try.func20, Try.ntmps20
  go_wp2_with (first | (go_at_call 34; refine (H.out _).mono ?_; rintro e w1 ⟨rfl, rfl⟩) | (go_at_call 24; refine (H24.out _ (by go_grown)).mono ?_))
  first | rintro e w2 rfl b2 | rintro e w2 ⟨rfl, b2⟩
  have z2 := at_below b2 (by simp) new0
  have y2 : Hid (Below w.heap.size w w2) := Below.trans (by go_grown) (b2.mono (by simp))
  obtain ⟨r0, r1, r2, r3, rf0, rf1, rf2, rf3, rs, rn⟩ := cells4 z2
  clear H H24 b2
  go_upto_region 4 with fail
  have hB : Hid (Below w.heap.size w (w2.alloc (.cells #[.int .i64 0, .int .i64 0, .int .i64 0, .int .i64 0] 23))) := y2.out.alloc y2.out.size _
  have z3 := at_alloc (o := .cells #[.int .i64 0, .int .i64 0, .int .i64 0, .int .i64 0] 23) z2
  have z4 : (w2.alloc (.cells #[.int .i64 0, .int .i64 0, .int .i64 0, .int .i64 0] 23)).heap[w2.heap.size]? = some (.cells #[.int .i64 0, .int .i64 0, .int .i64 0, .int .i64 0] 23 (0, 0)) := new0
  have H26' : Hid (Calls Try.prog 26 #[.pointer (some ⟨rb, 0, none⟩)] (w2.alloc (.cells #[.int .i64 0, .int .i64 0, .int .i64 0, .int .i64 0] 23)) fun e w' => e = .returned (.slice none 0 0) ∧ w' = w2.alloc (.cells #[.int .i64 0, .int .i64 0, .int .i64 0, .int .i64 0] 23)) := H26.out _ hB.out
  clear r0 r1 r2 r3 rf0 rf1 rf2 rf3 rs rn H26 y2 z2
  generalize w2.alloc (.cells #[.int .i64 0, .int .i64 0, .int .i64 0, .int .i64 0] 23) = W3 at *
  generalize w2.heap.size = mb at *
  obtain ⟨r0, r1, r2, r3, rf0, rf1, rf2, rf3, rs, rn⟩ := cells4 z3
  obtain ⟨s0, s1, s2, s3, sf0, sf1, sf2, sf3, ss, sn⟩ := cells4 z4
  go_wp2_with (go_at_call 26; refine H26'.out.mono ?_; rintro e w3 ⟨rfl, rfl⟩)
  go_rounds 1
  have r := at_set4 (v0 := .int .i64 0) (v1 := .int .i64 0) (v2 := .int .i64 0) (v3 := .int .i64 0) z3
  obtain ⟨x0, x1, x2, x3, -⟩ := cells4 r
  refine bodyPost_ret (v := .tuple #[.agg #[.int .i64 0, .int .i64 0, .int .i64 0, .int .i64 0], .int .i64 0]) (by rw [results_cell_tmp rfl]; simp [go_sem, x0, x1, x2, x3]) rfl ⟨rfl, ?_⟩
  exact below_set4 hB.out (Nat.le_refl _) _ _ _ _
set_option maxHeartbeats 400000 in
theorem rear_bad (w : World) (p : Value) (a n : Int) (v : V) (hv : v.ok = false) : Calls Try.prog 21 #[p, .int .i64 a, .int .i64 n, .agg #[.int .i64 v.a, .int .i64 v.b, .int .i64 v.c, .int .i64 v.d]] w fun e w' => e = .returned (.tuple #[.int .i64 0, .int .i64 4]) ∧ Below w.heap.size w w' := by
  have H : Hid (∀ w, Calls Try.prog 10 #[.agg #[.int .i64 v.a, .int .i64 v.b, .int .i64 v.c, .int .i64 v.d]] w fun e w' => e = .returned (.bool false) ∧ Below w.heap.size w w') := fun w => by have := rformed_V v w; rwa [hv] at this
  go_enter Try.func21, Try.ntmps21
  go_wp2_with (go_at_call 10; refine (H.out _).mono ?_)
  first | rintro e w1 rfl b1 | rintro e w1 ⟨rfl, b1⟩
  have y1 : Hid (Below w.heap.size w w1) := Below.trans (by go_grown) (b1.mono (by simp))
  go_wp2_with fail
  go_ret2
  exact ⟨rfl, y1.out⟩
set_option maxHeartbeats 1000000 in
theorem rear_range (w : World) (p : Value) (a n : Int) (v : V) (hv : v.ok = true) (hr : rgE a n = false) : Calls Try.prog 21 #[p, .int .i64 a, .int .i64 n, .agg #[.int .i64 v.a, .int .i64 v.b, .int .i64 v.c, .int .i64 v.d]] w fun e w' => e = .returned (.tuple #[.int .i64 0, .int .i64 2]) ∧ Below w.heap.size w w' := by
  have H : Hid (∀ w, Calls Try.prog 10 #[.agg #[.int .i64 v.a, .int .i64 v.b, .int .i64 v.c, .int .i64 v.d]] w fun e w' => e = .returned (.bool true) ∧ Below w.heap.size w w') := fun w => by have := rformed_V v w; rwa [hv] at this
  have HR : Hid (¬ (0 ≤ a ∧ a ≤ 1099511627776 ∧ 1 ≤ n ∧ n ≤ 1099511627776)) := of_decide_eq_false hr
  clear hr
  go_enter Try.func21, Try.ntmps21
  go_upto_region 5 with (go_at_call 10; refine (H.out _).mono ?_; first | rintro e w1 rfl b1 | rintro e w1 ⟨rfl, b1⟩)
  all_goals first
    | (exfalso; have := HR.out; omega)
    | (have y1 : Hid (Below w.heap.size w w1) := Below.trans (by go_grown) (b1.mono (by simp))
       go_wp2_with fail
       go_ret2
       exact ⟨rfl, y1.out⟩)
set_option maxHeartbeats 2000000 in
theorem rear_nil (w : World) (rb : Nat) (a n : Int) (v : V) (h : RZ w rb) (hv : v.ok = true) (hr : rgE a n = true) :
    Calls Try.prog 21 #[.pointer (some ⟨rb, 0, none⟩), .int .i64 a, .int .i64 n, .agg #[.int .i64 v.a, .int .i64 v.b, .int .i64 v.c, .int .i64 v.d]] w fun e w' => (∃ t c : Int, e = .returned (.tuple #[.int .i64 t, .int .i64 c]) ∧ EarA V.nil (fa V.nil []) a n v t c) ∧ Below w.heap.size w w' := by
  have H : Hid (∀ w, Calls Try.prog 10 #[.agg #[.int .i64 v.a, .int .i64 v.b, .int .i64 v.c, .int .i64 v.d]] w fun e w' => e = .returned (.bool true) ∧ Below w.heap.size w w') := fun w => by have := rformed_V v w; rwa [hv] at this
  have HR : 0 ≤ a ∧ a ≤ 1099511627776 ∧ 1 ≤ n ∧ n ≤ 1099511627776 := of_decide_eq_true hr
  obtain ⟨a0, a1, n0, n1⟩ := HR
  have HE : Hid (∀ t c : Int, (if ¬ v.le V.nil then t = 0 ∧ c = 7 else ∃ u, Ear (fa V.nil []) a n v u ∧ (if 1099511627776 < u + n then t = 0 ∧ c = 2 else t = u ∧ c = 0)) → EarA V.nil (fa V.nil []) a n v t c) := fun t c q => by
    unfold EarA
    rw [if_neg (by simp [hv]), if_neg (by simp [hr])]
    exact q
  have HZ : Hid (RZ w rb) := h
  have b0 : ¬ a < 0 := by omega
  have b1' : ¬ 1099511627776 < a := by omega
  have b2' : ¬ n < 1 := by omega
  have b3' : ¬ 1099511627776 < n := by omega
  have hw : IntKind.i64.wrap (a + n) = a + n := by rw [IntKind.wrap_i64]; omega
  clear h hv hr
  go_enter Try.func21, Try.ntmps21
  go_wp2_with (go_at_call 10; refine (H.out _).mono ?_)
  first | rintro e w1 rfl b1 | rintro e w1 ⟨rfl, b1⟩
  have z1 : Bx w1 w.heap.size v := at_below b1 (by simp) new0
  have y1 : Hid (Below w.heap.size w w1) := Below.trans (by go_grown) (b1.mono (by simp))
  obtain ⟨q0, q1, q2, q3, -⟩ := cells4 z1
  obtain ⟨m0, m1, m2, m3, -, -⟩ := (HZ.out.below y1.out).cells
  clear H b1
  obtain ⟨bt, hbt⟩ : ∃ bt, bt = decide (v.le V.nil) := ⟨_, rfl⟩
  have HT : Hid (bt = decide (v.le V.nil)) := hbt
  have H16 : Hid (∀ W, Calls Try.prog 16 #[.agg #[.int .i64 v.a, .int .i64 v.b, .int .i64 v.c, .int .i64 v.d], .agg #[.int .i64 0, .int .i64 0, .int .i64 0, .int .i64 0]] W fun e w2 => e = .returned (.bool bt) ∧ Below W.heap.size W w2) := fun W => by
    have := rfits_V v V.nil W
    rwa [← hbt] at this
  have H16a : Hid (Calls Try.prog 16 #[.agg #[.int .i64 v.a, .int .i64 v.b, .int .i64 v.c, .int .i64 v.d], .agg #[.int .i64 0, .int .i64 0, .int .i64 0, .int .i64 0]] w1.drew fun e w2 => e = .returned (.bool bt) ∧ Hid (Below w.heap.size w w2 ∧ Bx w2 w.heap.size v)) := by
    refine (H16.out _).mono ?_
    rintro e w2 ⟨rfl, b2⟩
    have hB : Below w1.heap.size w1 w2 := ((Below.refl _ w1).drew).trans b2
    exact ⟨rfl, y1.out.trans (hB.mono y1.out.size), at_below hB (Nat.le_refl _) z1⟩
  clear hbt z1
  go_wp2_with fail
  go_region_with (first | (go_at_call 16; refine H16a.out.mono ?_; rintro e w2 ⟨rfl, h2⟩))
  all_goals clear H16a q0 q1 q2 q3 m0 m1 m2 m3
  all_goals cases bt
  all_goals first
    | (have hC : Hid (¬ v.le V.nil) := of_decide_eq_false HT.out.symm
       go_wp2_with fail
       go_ret2
       exact ⟨⟨0, 7, rfl, HE.out _ _ (by rw [if_pos hC.out]; exact ⟨rfl, rfl⟩)⟩, h2.out.1⟩)
    | (have hC0 : v.le V.nil := of_decide_eq_true HT.out.symm
       have hC : Hid (v.le V.nil) := hC0
       have HEA : Hid (Ear (fa V.nil []) a n v a) := ⟨Int.le_refl _, fun u _ _ => hC0, fun s h1 h2 => absurd h1 (by omega)⟩
       clear hC0
       obtain ⟨W3, hW3⟩ : ∃ W3, W3 = w2.alloc (.cells #[.int .i64 a] 2) := ⟨_, rfl⟩
       have hb2 := h2.out.1
       have hB3 : Below w.heap.size w W3 := by rw [hW3]; exact hb2.alloc hb2.size _
       have z3 : Bx W3 w.heap.size v := by rw [hW3]; exact at_alloc h2.out.2
       have z4 : W3.heap[w2.heap.size]? = some (.cells #[.int .i64 a] 2 (0, 0)) := by rw [hW3]; exact new0
       have H26 : Hid (Calls Try.prog 26 #[.pointer (some ⟨rb, 0, none⟩)] W3 fun e w' => e = .returned (.slice none 0 0) ∧ w' = W3) := rends_nil W3 rb (HZ.out.below hB3)
       have H24 : Hid (Calls Try.prog 24 #[.pointer (some ⟨rb, 0, none⟩), .int .i64 a] W3.drew fun e w' => e = .returned (.agg #[.int .i64 0, .int .i64 0, .int .i64 0, .int .i64 0]) ∧ (w'.cell? ⟨w.heap.size, 0, none⟩ = some (.int .i64 v.a) ∧ w'.cell? ⟨w.heap.size, 1, none⟩ = some (.int .i64 v.b) ∧ w'.cell? ⟨w.heap.size, 2, none⟩ = some (.int .i64 v.c) ∧ w'.cell? ⟨w.heap.size, 3, none⟩ = some (.int .i64 v.d)) ∧
          Hid (Calls Try.prog 16 #[.agg #[.int .i64 v.a, .int .i64 v.b, .int .i64 v.c, .int .i64 v.d], .agg #[.int .i64 0, .int .i64 0, .int .i64 0, .int .i64 0]] w' fun e w5 => e = .returned (.bool true) ∧ w5.cell? ⟨w2.heap.size, 0, none⟩ = some (.int .i64 a) ∧ Hid (Below w.heap.size w w5))) := by
         have hD : Below W3.heap.size W3 W3.drew := (Below.refl _ W3).drew
         refine (rfree_nil W3.drew rb a (HZ.out.below (hB3.trans (hD.mono hB3.size)))).mono ?_
         rintro e w' ⟨rfl, b5⟩
         have z5 := at_below (hD.trans b5) (Nat.le_refl _) z3
         have z6 := at_below (hD.trans b5) (Nat.le_refl _) z4
         obtain ⟨q0, q1, q2, q3, -⟩ := cells4 z5
         refine ⟨rfl, ⟨q0, q1, q2, q3⟩, ?_⟩
         refine (H16.out w').mono ?_
         rintro e w5 ⟨rfl, b6⟩
         exact ⟨rfl, by rw [cell_of (at_below b6 (Nat.le_refl _) z6)]; rfl, (hB3.trans ((hD.trans b5).mono hB3.size)).trans (b6.mono (Nat.le_trans hB3.size (hD.trans b5).size))⟩
       go_upto_region 8 with fail
       rw [← hW3]
       obtain ⟨q0, q1, q2, q3, -⟩ := cells4 z3
       have q4 : W3.cell? ⟨w2.heap.size, 0, none⟩ = some (.int .i64 a) := by rw [cell_of z4]; rfl
       clear hW3 h2 hb2 hB3 z3 z4 H16
       generalize w2.heap.size = lb at *
       go_wp2_with (go_at_call 26; refine H26.out.mono ?_; rintro e w3 ⟨rfl, rfl⟩)
       go_rounds 1
       go_wp2_with fail
       refine wp_loop_rounds 1 ?_
       rw [rounds_succ]
       go_wp2_with fail
       have zz : w3.cell? ⟨w.heap.size, 0, none⟩ = some (.int .i64 v.a) ∧ w3.cell? ⟨w.heap.size, 1, none⟩ = some (.int .i64 v.b) ∧ w3.cell? ⟨w.heap.size, 2, none⟩ = some (.int .i64 v.c) ∧ w3.cell? ⟨w.heap.size, 3, none⟩ = some (.int .i64 v.d) := ⟨q0, q1, q2, q3⟩
       go_region_with (first | (go_at_call 24; refine H24.out.mono ?_; rintro e w4 ⟨rfl, ⟨t0, t1, t2, t3⟩, h4⟩) | (go_at_call 16; refine h4.out.mono ?_; rintro e w5 ⟨rfl, t5, h5⟩))
       all_goals clear t0 t1 t2 t3 h4 q0 q1 q2 q3 zz H24
       all_goals by_cases hm : 1099511627776 < a + n
       all_goals first
         | (go_wp2_with fail
            go_rounds 1
            go_ret2
            exact ⟨⟨0, 2, rfl, HE.out _ _ (by rw [if_neg (fun q => q hC.out)]; exact ⟨a, HEA.out, by rw [if_pos hm]; exact ⟨rfl, rfl⟩⟩)⟩, h5.out⟩)
         | (go_wp2_with fail
            go_rounds 1
            go_ret2
            exact ⟨⟨a, 0, rfl, HE.out _ _ (by rw [if_neg (fun q => q hC.out)]; exact ⟨a, HEA.out, by rw [if_neg (by omega)]; exact ⟨rfl, rfl⟩⟩)⟩, h5.out⟩))
end Go.Proofs.Ytkfpbpkadkhhnaa
