/-
  The contract of the program's Mul.
-/
import Derived.Test.YtfcegoibelokpaaWalkS
namespace Go.Proofs.Ytfcegoibelokpaa
open Go.RowKit

theorem narrow_gen (n d : Nat) (w : World) :
    Calls Try.prog 35 #[wideV n, wideV d] w fun e w' => e = ans (Q.narrowR n d) ∧ Below w.heap.size w w' := by
  unfold Q.narrowR wideV
  by_cases h : n / 18446744073709551616 ≠ 0 ∨ d / 18446744073709551616 ≠ 0
  · rw [if_pos h]
    exact narrow_over _ _ _ _ h w
  · rw [if_neg h, show n / 18446744073709551616 = 0 by omega, show d / 18446744073709551616 = 0 by omega, show n % 18446744073709551616 = n by omega, show d % 18446744073709551616 = d by omega]
    exact narrow_fine n d w

theorem below22 {W : World} {g h : Nat} {v0 v1 v2 v3 : Value} {B : Nat} {w : World} (hb : Below B w W) (h1 : B ≤ g) (h2 : B ≤ h) : Below B w ((((W.setCell ⟨g, 0, none⟩ v0).setCell ⟨g, 1, none⟩ v1).setCell ⟨h, 0, none⟩ v2).setCell ⟨h, 1, none⟩ v3) :=
  (((hb.setCell h1 _).setCell h1 _).setCell h2 _).setCell h2 _

theorem set22 {W w : World} {n1 d1 n2 d2 : Nat} {x y x' y' : Value} {o : Obj} (p : W.heap[w.heap.size]? = some (.cells #[x, y] 24)) (q : W.heap[w.heap.size + 1]? = some (.cells #[x', y'] 24)) (r : W.heap[w.heap.size + 1 + 1]? = some o) (hb : Hid (Below w.heap.size w W)) :
    ((((W.setCell ⟨w.heap.size, 0, none⟩ (.int .u64 n1)).setCell ⟨w.heap.size, 1, none⟩ (.int .u64 d1)).setCell ⟨w.heap.size + 1, 0, none⟩ (.int .u64 n2)).setCell ⟨w.heap.size + 1, 1, none⟩ (.int .u64 d2)).heap[w.heap.size]? = some (.cells #[.int .u64 n1, .int .u64 d1] 24) ∧
    ((((W.setCell ⟨w.heap.size, 0, none⟩ (.int .u64 n1)).setCell ⟨w.heap.size, 1, none⟩ (.int .u64 d1)).setCell ⟨w.heap.size + 1, 0, none⟩ (.int .u64 n2)).setCell ⟨w.heap.size + 1, 1, none⟩ (.int .u64 d2)).heap[w.heap.size + 1]? = some (.cells #[.int .u64 n2, .int .u64 d2] 24) ∧
    ((((W.setCell ⟨w.heap.size, 0, none⟩ (.int .u64 n1)).setCell ⟨w.heap.size, 1, none⟩ (.int .u64 d1)).setCell ⟨w.heap.size + 1, 0, none⟩ (.int .u64 n2)).setCell ⟨w.heap.size + 1, 1, none⟩ (.int .u64 d2)).heap[w.heap.size + 1 + 1]? = some o ∧
    Hid (Below w.heap.size w ((((W.setCell ⟨w.heap.size, 0, none⟩ (.int .u64 n1)).setCell ⟨w.heap.size, 1, none⟩ (.int .u64 d1)).setCell ⟨w.heap.size + 1, 0, none⟩ (.int .u64 n2)).setCell ⟨w.heap.size + 1, 1, none⟩ (.int .u64 d2))) :=
  ⟨at_other (at_other (at_set2 p) (by omega)) (by omega), at_set2 (at_other (at_other q (by omega)) (by omega)), at_other (at_other (at_other (at_other r (by omega)) (by omega)) (by omega)) (by omega), below22 hb.out (Nat.le_refl _) (by omega)⟩

set_option maxHeartbeats 4000000 in
theorem mul_at (a b c d n1 d1 n2 d2 ab ba e1 e2 e3 e4 h1 l1 h2 l2 x1 x2 x3 : Nat) (w : World)
    (HF : Hid (∀ w, Calls Try.prog 22 #[.agg #[.int .u64 a, .int .u64 b], .agg #[.int .u64 c, .int .u64 d]] w fun e w' => e = .returned (.bool true) ∧ Below w.heap.size w w'))
    (L1 : Hid (∀ w, Calls Try.prog 21 #[.agg #[.int .u64 a, .int .u64 b]] w fun e w' => e = .returned (.agg #[.int .u64 n1, .int .u64 d1]) ∧ Below w.heap.size w w'))
    (L2 : Hid (∀ w, Calls Try.prog 21 #[.agg #[.int .u64 c, .int .u64 d]] w fun e w' => e = .returned (.agg #[.int .u64 n2, .int .u64 d2]) ∧ Below w.heap.size w w'))
    (G1 : Hid (∀ w, Calls Try.prog 34 #[.int .u64 n1, .int .u64 d2] w fun e w' => e = .returned (.int .u64 ab) ∧ ∃ n, w' = w.drewN n))
    (G2 : Hid (∀ w, Calls Try.prog 34 #[.int .u64 n2, .int .u64 d1] w fun e w' => e = .returned (.int .u64 ba) ∧ ∃ n, w' = w.drewN n))
    (hab : ¬ ab = 0) (hba : ¬ ba = 0) (Q1 : Hid (IntKind.u64.wrap ((n1 : Int) / (ab : Int)) = (e1 : Int) ∧ IntKind.u64.wrap ((n2 : Int) / (ba : Int)) = (e2 : Int) ∧ IntKind.u64.wrap ((d1 : Int) / (ba : Int)) = (e3 : Int) ∧ IntKind.u64.wrap ((d2 : Int) / (ab : Int)) = (e4 : Int)))
    (T1 : Hid (∀ w, Calls Try.prog 36 #[.int .u64 e1, .int .u64 e2] w fun e w' => e = .returned (.agg #[.int .u64 h1, .int .u64 l1]) ∧ Below w.heap.size w w'))
    (T2 : Hid (∀ w, Calls Try.prog 36 #[.int .u64 e3, .int .u64 e4] w fun e w' => e = .returned (.agg #[.int .u64 h2, .int .u64 l2]) ∧ Below w.heap.size w w'))
    (N : Hid (∀ w, Calls Try.prog 35 #[.agg #[.int .u64 h1, .int .u64 l1], .agg #[.int .u64 h2, .int .u64 l2]] w fun e w' => e = .returned (.tuple #[.agg #[.int .u64 x1, .int .u64 x2], .int .i64 x3]) ∧ Below w.heap.size w w')) :
    Calls Try.prog 19 #[.agg #[.int .u64 a, .int .u64 b], .agg #[.int .u64 c, .int .u64 d]] w fun e w' => e = ans (x1, x2, x3) ∧ Below w.heap.size w w' := by
  go_enter Try.func19, Try.ntmps19
  go_upto_region 3 with (go_at_call 22; refine (HF.out _).mono ?_; rintro e w1 ⟨rfl, b1⟩; have y1 : Hid (Below w.heap.size w w1) := below_from (by go_grown) b1 (by simp; omega); have z0 := keep2 b1 (at_alloc first0); have z1 := keep2 b1 (at_alloc first1); have z2 := keep2 b1 first2)
  obtain ⟨z00, z01, z02, -, -, -, -⟩ := z0
  obtain ⟨z10, z11, z12, -, -, -, -⟩ := z1
  obtain ⟨r1, -, -, -, -, -, -⟩ := z2
  clear b1 HF
  go_cut [] from 13 to 16 (fun wx => wx.heap[w.heap.size]? = some (.cells #[.int .u64 n1, .int .u64 d1] 24) ∧ wx.heap[w.heap.size + 1]? = some (.cells #[.int .u64 n2, .int .u64 d2] 24) ∧ wx.heap[w.heap.size + 1 + 1]? = some (.cells #[.int .u64 0, .int .u64 0] 24) ∧ Hid (Below w.heap.size w wx))
  case first =>
    clear T1 T2 N G1 G2 Q1 hab hba
    go_region_with (first | (go_at_call_of 21 (Value.int .u64 a); refine (L1.out _).mono ?_; rintro e w2 ⟨rfl, b2⟩; have y2 : Hid (Below w.heap.size w w2) := below_from y1.out.drew b2 y1.out.size; have p2 := keep2 b2 (g := w.heap.size) (x := Value.int .u64 a) (y := Value.int .u64 b) (ty := 24) (at_drew (by assumption)); obtain ⟨p20, p21, p22, p23, p24, -, -⟩ := p2; have q2 := keep2 b2 (g := w.heap.size + 1) (x := Value.int .u64 c) (y := Value.int .u64 d) (ty := 24) (at_drew (by assumption)); obtain ⟨q20, q21, q22, q23, q24, -, -⟩ := q2; have r2 := keep2 b2 (g := w.heap.size + 1 + 1) (x := Value.int .u64 0) (y := Value.int .u64 0) (ty := 24) (at_drew (by assumption)); obtain ⟨r20, r21, r22, r23, r24, -, -⟩ := r2) | (go_at_call_of 21 (Value.int .u64 c); refine (L2.out _).mono ?_; rintro e w3 ⟨rfl, b3⟩; have y3 : Hid (Below w.heap.size w w3) := below_from y2.out b3 y2.out.size; have p3 := keep2 b3 (g := w.heap.size) (x := Value.int .u64 a) (y := Value.int .u64 b) (ty := 24) (by assumption); obtain ⟨p30, p31, p32, p33, p34, -, -⟩ := p3; have q3 := keep2 b3 (g := w.heap.size + 1) (x := Value.int .u64 c) (y := Value.int .u64 d) (ty := 24) (by assumption); obtain ⟨q30, q31, q32, q33, q34, -, -⟩ := q3; have r3 := keep2 b3 (g := w.heap.size + 1 + 1) (x := Value.int .u64 0) (y := Value.int .u64 0) (ty := 24) (by assumption); obtain ⟨r30, r31, r32, r33, r34, -, -⟩ := r3))
    all_goals (go_wp2_with fail; go_meet)
    all_goals exact set22 p30 q30 r30 y3
  case rest =>
    obtain ⟨hp, hq, hr, hbl⟩ := hcut
    have k0 := Lib.cell_of_heap hp 0
    have k1 := Lib.cell_of_heap hp 1
    have k2 := Lib.cell_of_heap hq 0
    have k3 := Lib.cell_of_heap hq 1
    simp only [List.getElem?_toArray, List.getElem?_cons_zero, List.getElem?_cons_succ] at k0 k1 k2 k3
    clear L1 L2 y1 r1 z00 z01 z02 z10 z11 z12 hp hq
    go_wp2_with fail
    go_quiet (first | (go_at_call_of 34 (Value.int .u64 n1); exact Calls.quiet_of (G1.out _)) | (go_at_call_of 34 (Value.int .u64 n2); exact Calls.quiet_of (G2.out _)))
    go_wp2_with fail
    clear G1 G2
    have hab' : ¬ ((ab : Int) = 0) := by omega
    have hba' : ¬ ((ba : Int) = 0) := by omega
    obtain ⟨E1, E2, E3, E4⟩ := Q1.out
    clear Q1
    go_region_held3 (fun w' : World => w'.cell? ⟨w.heap.size, 0, none⟩ = some (.int .u64 n1) ∧ w'.cell? ⟨w.heap.size, 1, none⟩ = some (.int .u64 d1) ∧ w'.cell? ⟨w.heap.size + 1, 0, none⟩ = some (.int .u64 n2) ∧ w'.cell? ⟨w.heap.size + 1, 1, none⟩ = some (.int .u64 d2)) (repeat' (first | (with_reducible assumption) | (with_reducible refine keep4c (by assumption) ?_) | (with_reducible refine keep4t lt2 lt2 lt1 lt1 ?_) | go_keep))
      (first | (go_at_call_of 36 (Value.int .u64 e1); refine (T1.out _).mono ?_; rintro e w5 ⟨rfl, b5⟩; have y5 : Hid (Below w.heap.size w w5) := below_from (below_drewN hbl.out _) b5 hbl.out.size; have rr5 := keep2 b5 (g := w.heap.size + 1 + 1) (x := Value.int .u64 0) (y := Value.int .u64 0) (ty := 24) (at_drewN (by assumption)); obtain ⟨r5, t50, t51, t52, t53, -, -⟩ := rr5) | (go_at_call_of 36 (Value.int .u64 e3); refine (T2.out _).mono ?_; rintro e w6 ⟨rfl, b6⟩; have y6 : Hid (Below w.heap.size w w6) := below_from y5.out b6 y5.out.size; have rr6 := keep2 b6 (g := w.heap.size + 1 + 1) (x := Value.int .u64 0) (y := Value.int .u64 0) (ty := 24) (by assumption); obtain ⟨r6, t60, t61, t62, t63, -, -⟩ := rr6) | (go_at_call 35; refine (N.out _).mono ?_; rintro e w7 ⟨rfl, b7⟩; have y7 : Hid (Below w.heap.size w w7) := below_from y6.out b7 y6.out.size; have rr7 := keep2 b7 (g := w.heap.size + 1 + 1) (x := Value.int .u64 0) (y := Value.int .u64 0) (ty := 24) (by assumption); obtain ⟨r7, t70, t71, t72, t73, -, -⟩ := rr7))
    clear E1 E2 E3 E4
    go_wp2_with fail
    have rr := at_set2 (v := .int .u64 x1) (v' := .int .u64 x2) r7
    have c0 := Lib.cell_of_heap rr 0
    have c1' := Lib.cell_of_heap rr 1
    simp only [List.getElem?_toArray, List.getElem?_cons_zero, List.getElem?_cons_succ] at c0 c1'
    refine bodyPost_ret (by simp [results, Try.results19, go_sem, c0, c1']; rfl) rfl ?_
    exact ⟨rfl, (y7.out.setCell le2 _).setCell le2 _⟩

set_option maxHeartbeats 1000000 in
theorem mul_bad (a b c d : Nat) (w : World) (h : b = 0 ∨ d = 0) :
    Calls Try.prog 19 #[.agg #[.int .u64 a, .int .u64 b], .agg #[.int .u64 c, .int .u64 d]] w fun e w' => e = ans (0, 0, 4) ∧ Below w.heap.size w w' := by
  have HF : Hid (∀ w, Calls Try.prog 22 #[.agg #[.int .u64 a, .int .u64 b], .agg #[.int .u64 c, .int .u64 d]] w fun e w' => e = .returned (.bool false) ∧ Below w.heap.size w w') := fun w => by
    have := formed_any a b c d w
    rw [show decide (b ≠ 0 ∧ d ≠ 0) = false by simp; omega] at this
    exact this
  clear h
  go_enter Try.func19, Try.ntmps19
  go_wp2_with (go_at_call 22; refine (HF.out _).mono ?_; rintro e w1 ⟨rfl, b1⟩; have y1 : Hid (Below w.heap.size w w1) := below_from (by go_grown) b1 (by simp; omega); have z2 := keep2 b1 first2)
  have rr := at_set2 (v := .int .u64 0) (v' := .int .u64 0) z2.1
  have c0 := Lib.cell_of_heap rr 0
  have c1' := Lib.cell_of_heap rr 1
  simp only [List.getElem?_toArray, List.getElem?_cons_zero, List.getElem?_cons_succ] at c0 c1'
  refine bodyPost_ret (by simp [results, Try.results19, go_sem, c0, c1']; rfl) rfl ?_
  exact ⟨rfl, (y1.out.setCell le2 _).setCell le2 _⟩

theorem mul_any (a b c d : Nat) (w : World) (ha : a < 18446744073709551616) (hb : b < 18446744073709551616) (hc : c < 18446744073709551616) (hd : d < 18446744073709551616) :
    Calls Try.prog 19 #[.agg #[.int .u64 a, .int .u64 b], .agg #[.int .u64 c, .int .u64 d]] w fun e w' => e = ans (Q.mulR a b c d) ∧ Below w.heap.size w w' := by
  unfold Q.mulR
  by_cases h : b = 0 ∨ d = 0
  · rw [if_pos h]; exact mul_bad a b c d w h
  · rw [if_neg h]
    have hb0 : 0 < b := by omega
    have hd0 : 0 < d := by omega
    have hF : ∀ w, Calls Try.prog 22 #[.agg #[.int .u64 a, .int .u64 b], .agg #[.int .u64 c, .int .u64 d]] w fun e w' => e = .returned (.bool true) ∧ Below w.heap.size w w' := fun w => by
      have := formed_any a b c d w
      rw [show decide (b ≠ 0 ∧ d ≠ 0) = true by simp; omega] at this
      exact this
    obtain ⟨k1, p1, q1⟩ := Q.own_low (a := a) hb0
    obtain ⟨k2, p2, q2⟩ := Q.own_low (a := c) hd0
    have l1 := fun w => lowest_any a b w ha hb hb0
    have l2 := fun w => lowest_any c d w hc hd hd0
    have u1 : a / a.gcd b < 18446744073709551616 := Nat.lt_of_le_of_lt (Nat.div_le_self _ _) ha
    have u2 : b / a.gcd b < 18446744073709551616 := Nat.lt_of_le_of_lt (Nat.div_le_self _ _) hb
    have u3 : c / c.gcd d < 18446744073709551616 := Nat.lt_of_le_of_lt (Nat.div_le_self _ _) hc
    have u4 : d / c.gcd d < 18446744073709551616 := Nat.lt_of_le_of_lt (Nat.div_le_self _ _) hd
    generalize a / a.gcd b = n1 at *
    generalize b / a.gcd b = d1 at *
    generalize c / c.gcd d = n2 at *
    generalize d / c.gcd d = d2 at *
    have hm := Q.mul_meet hb0 hd0 p1 p2 k1 k2 q1 q2
    rw [← hm]
    have g1 : 0 < n1.gcd d2 := Nat.gcd_pos_of_pos_right _ p2
    have g2 : 0 < n2.gcd d1 := Nat.gcd_pos_of_pos_right _ p1
    have v1 : n1 / n1.gcd d2 < 18446744073709551616 := Nat.lt_of_le_of_lt (Nat.div_le_self _ _) u1
    have v2 : n2 / n2.gcd d1 < 18446744073709551616 := Nat.lt_of_le_of_lt (Nat.div_le_self _ _) u3
    have v3 : d1 / n2.gcd d1 < 18446744073709551616 := Nat.lt_of_le_of_lt (Nat.div_le_self _ _) u2
    have v4 : d2 / n1.gcd d2 < 18446744073709551616 := Nat.lt_of_le_of_lt (Nat.div_le_self _ _) u4
    have nr := fun w => narrow_gen (n1 / n1.gcd d2 * (n2 / n2.gcd d1)) (d1 / n2.gcd d1 * (d2 / n1.gcd d2)) w
    obtain ⟨x1, x2, x3, hX⟩ : ∃ x1 x2 x3, Q.narrowR (n1 / n1.gcd d2 * (n2 / n2.gcd d1)) (d1 / n2.gcd d1 * (d2 / n1.gcd d2)) = (x1, x2, x3) := ⟨_, _, _, rfl⟩
    rw [hX]
    rw [hX] at nr
    exact mul_at a b c d n1 d1 n2 d2 (n1.gcd d2) (n2.gcd d1) _ _ _ _ _ _ _ _ x1 x2 x3 w hF l1 l2 (fun w => gcd_any n1 d2 w u1 u4) (fun w => gcd_any n2 d1 w u3 u2) (by omega) (by omega)
      ⟨div_u64 n1 _ u1, div_u64 n2 _ u3, div_u64 d1 _ u2, div_u64 d2 _ u4⟩ (fun w => times_any _ _ w v1 v2) (fun w => times_any _ _ w v3 v4) nr

end Go.Proofs.Ytfcegoibelokpaa
