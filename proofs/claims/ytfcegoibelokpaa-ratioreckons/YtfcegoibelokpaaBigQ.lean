/-
  The contracts of the reference's Add, Sub and Mul: they answer what Q.addR, Q.subR and Q.mulR say.
-/
import Derived.Test.YtfcegoibelokpaaBigP
namespace Go.Proofs.Ytfcegoibelokpaa
open Go.RowKit Big

theorem toNat_lt {n : Nat} (h : n < 2 ^ 256) : (BitVec.ofNat 256 n).toNat = n := by rw [BitVec.toNat_ofNat, Nat.mod_eq_of_lt h]

theorem word_any (x : Nat) (w : World) (hx : x < 2 ^ 256) :
    Calls Try.prog 44 #[.agg (bigR (BitVec.ofNat 256 x))] w fun e w' => e = .returned (.tuple #[.int .u64 ((if x < 18446744073709551616 then x else 0 : Nat) : Int), .bool (decide (x < 18446744073709551616))]) ∧ Below w.heap.size w w' := by
  have ht := toNat_lt hx
  by_cases h : x < 18446744073709551616
  · rw [if_pos h, decide_eq_true h]
    have := word_ok (BitVec.ofNat 256 x) w (by rw [ht]; exact h)
    rwa [ht] at this
  · rw [if_neg h, decide_eq_false h]
    exact word_no (BitVec.ofNat 256 x) w (by rw [ht]; omega)

theorem lowest_big (n d : Nat) (w : World) (hn : n < 2 ^ 256) (hd0 : 0 < d) (hd : d ≤ 2 ^ 255) :
    Calls Try.prog 30 #[.agg (bigR (BitVec.ofNat 256 n)), .agg (bigR (BitVec.ofNat 256 d))] w fun e w' => e = ans (Q.low n d) ∧ Below w.heap.size w w' := by
  have hd2 : d < 2 ^ 256 := Nat.lt_of_le_of_lt hd (by decide)
  have tn := toNat_lt hn
  have td := toNat_lt hd2
  have hg0 : 0 < n.gcd d := Nat.gcd_pos_of_pos_right _ hd0
  have hgd : n.gcd d ≤ d := Nat.le_of_dvd hd0 (Nat.gcd_dvd_right n d)
  have hg2 : n.gcd d < 2 ^ 256 := Nat.lt_of_le_of_lt hgd hd2
  have tg := toNat_lt hg2
  have hx : n / n.gcd d < 2 ^ 256 := Nat.lt_of_le_of_lt (Nat.div_le_self _ _) hn
  have hy : d / n.gcd d < 2 ^ 256 := Nat.lt_of_le_of_lt (Nat.div_le_self _ _) hd2
  have HG : ∀ w, Calls Try.prog 42 #[.agg (bigR (BitVec.ofNat 256 n)), .agg (bigR (BitVec.ofNat 256 d))] w fun e w' => e = .returned (.agg (bigR (BitVec.ofNat 256 (n.gcd d)))) ∧ Below w.heap.size w w' := fun w => by
    have := gcd_big (BitVec.ofNat 256 n) (BitVec.ofNat 256 d) w (by rw [td]; exact hd)
    rwa [tn, td] at this
  have HX : ∀ w, Calls Try.prog 43 #[.agg (bigR (BitVec.ofNat 256 n)), .agg (bigR (BitVec.ofNat 256 (n.gcd d)))] w fun e w' => e = .returned (.tuple #[.agg (bigR (BitVec.ofNat 256 (n / n.gcd d))), .agg (bigR (BitVec.ofNat 256 (n % n.gcd d)))]) ∧ Below w.heap.size w w' := fun w => by
    have := divided_any (BitVec.ofNat 256 n) (BitVec.ofNat 256 (n.gcd d)) w (by rw [tg]; exact hg0) (by rw [tg]; exact Nat.le_trans hgd hd)
    rwa [tn, tg] at this
  have HY : ∀ w, Calls Try.prog 43 #[.agg (bigR (BitVec.ofNat 256 d)), .agg (bigR (BitVec.ofNat 256 (n.gcd d)))] w fun e w' => e = .returned (.tuple #[.agg (bigR (BitVec.ofNat 256 (d / n.gcd d))), .agg (bigR (BitVec.ofNat 256 (d % n.gcd d)))]) ∧ Below w.heap.size w w' := fun w => by
    have := divided_any (BitVec.ofNat 256 d) (BitVec.ofNat 256 (n.gcd d)) w (by rw [tg]; exact hg0) (by rw [tg]; exact Nat.le_trans hgd hd)
    rwa [td, tg] at this
  have := lowest_at _ _ _ _ _ _ _ _ _ _ _ w HG HX HY (fun w => word_any _ w hx) (fun w => word_any _ w hy)
  refine this.mono ?_
  rintro e w' ⟨rfl, b⟩
  refine ⟨?_, b⟩
  unfold Q.low
  generalize n / n.gcd d = x at *
  generalize d / n.gcd d = y at *
  by_cases c1 : x < 18446744073709551616
  · by_cases c2 : y < 18446744073709551616
    · rw [if_pos (show x < 18446744073709551616 ∧ y < 18446744073709551616 from ⟨c1, c2⟩), decide_eq_true c1, decide_eq_true c2, if_pos c1, if_pos c2]; rfl
    · rw [if_neg (by omega : ¬ (x < 18446744073709551616 ∧ y < 18446744073709551616)), decide_eq_true c1, decide_eq_false c2]; rfl
  · rw [if_neg (by omega : ¬ (x < 18446744073709551616 ∧ y < 18446744073709551616)), decide_eq_false c1]; rfl

theorem prod_lt {a d : Nat} (ha : a < 18446744073709551616) (hd : d < 18446744073709551616) : a * d < 2 ^ 128 := by
  have := Nat.mul_lt_mul'' ha hd
  exact Nat.lt_of_lt_of_le this (by decide)

theorem timesOf (a d : Nat) (w : World) (hd : d < 18446744073709551616) :
    Calls Try.prog 26 #[.agg (bigR (BitVec.ofNat 256 a)), .int .u64 d] w fun e w' => e = .returned (.agg (bigR (BitVec.ofNat 256 (a * d)))) ∧ Below w.heap.size w w' := by
  have := times_big (BitVec.ofNat 256 a) d w hd
  rwa [tm_ofNat a d hd] at this

theorem pow_small : (2 : Nat) ^ 128 ≤ 2 ^ 255 := Nat.pow_le_pow_right (by decide) (by decide)
theorem pow_big : (2 : Nat) ^ 128 + 2 ^ 128 < 2 ^ 256 := by decide
theorem pow_mid : (2 : Nat) ^ 128 < 2 ^ 256 := by decide

set_option maxHeartbeats 1000000 in
theorem rbad (f : Nat) (hf : f = 16 ∨ f = 20) (a b c d : Nat) (w : World) (h : b = 0 ∨ d = 0) :
    Calls Try.prog f #[.agg #[.int .u64 a, .int .u64 b], .agg #[.int .u64 c, .int .u64 d]] w fun e w' => e = ans (0, 0, 4) ∧ Below w.heap.size w w' := by
  have hc : b = 0 ∨ (((b : Int) == 0) = false ∧ d = 0) := by
    by_cases h1 : b = 0
    · exact .inl h1
    · exact .inr ⟨by simp; omega, by omega⟩
  clear h
  rcases hf with rfl | rfl <;> rcases hc with rfl | ⟨h1, rfl⟩
  · go_enter Try.func16, Try.ntmps16
    go_wp2_with fail
    go_returns
    exact ⟨rfl, by go_grown⟩
  · go_enter Try.func16, Try.ntmps16
    go_wp2_with fail
    go_returns
    exact ⟨rfl, by go_grown⟩
  · go_enter Try.func20, Try.ntmps20
    go_wp2_with fail
    go_returns
    exact ⟨rfl, by go_grown⟩
  · go_enter Try.func20, Try.ntmps20
    go_wp2_with fail
    go_returns
    exact ⟨rfl, by go_grown⟩

theorem radd_any (a b c d : Nat) (w : World) (ha : a < 18446744073709551616) (hb : b < 18446744073709551616) (hc : c < 18446744073709551616) (hd : d < 18446744073709551616) :
    Calls Try.prog 16 #[.agg #[.int .u64 a, .int .u64 b], .agg #[.int .u64 c, .int .u64 d]] w fun e w' => e = ans (Q.addR a b c d) ∧ Below w.heap.size w w' := by
  unfold Q.addR
  by_cases h : b = 0 ∨ d = 0
  · rw [if_pos h]; exact rbad 16 (.inl rfl) a b c d w h
  · rw [if_neg h]
    have p1 := prod_lt ha hd
    have p2 := prod_lt hc hb
    have p3 := prod_lt hb hd
    have q0 : 0 < b * d := Nat.mul_pos (by omega) (by omega)
    have hP : ∀ w, Calls Try.prog 31 #[.agg (bigR (BitVec.ofNat 256 (a * d))), .agg (bigR (BitVec.ofNat 256 (c * b)))] w fun e w' => e = .returned (.agg (bigR (BitVec.ofNat 256 (a * d + c * b)))) ∧ Below w.heap.size w w' := fun w => by
      have := plus_any (BitVec.ofNat 256 (a * d)) (BitVec.ofNat 256 (c * b)) w
      rwa [← BitVec.ofNat_add] at this
    have s1 := pow_small
    have s2 := pow_big
    exact radd_at a b c d _ _ _ _ _ _ _ _ _ _ w (by simp; omega) (by simp; omega) (fun w => of_any a w ha) (fun w => timesOf a d w hd) (fun w => of_any c w hc) (fun w => timesOf c b w hb) hP (fun w => of_any b w hb) (fun w => timesOf b d w hd) (fun w => lowest_big _ _ w (by omega) q0 (by omega))

theorem rmul_any (a b c d : Nat) (w : World) (ha : a < 18446744073709551616) (hb : b < 18446744073709551616) (hc : c < 18446744073709551616) (hd : d < 18446744073709551616) :
    Calls Try.prog 20 #[.agg #[.int .u64 a, .int .u64 b], .agg #[.int .u64 c, .int .u64 d]] w fun e w' => e = ans (Q.mulR a b c d) ∧ Below w.heap.size w w' := by
  unfold Q.mulR
  by_cases h : b = 0 ∨ d = 0
  · rw [if_pos h]; exact rbad 20 (.inr rfl) a b c d w h
  · rw [if_neg h]
    have p1 := prod_lt ha hc
    have p3 := prod_lt hb hd
    have q0 : 0 < b * d := Nat.mul_pos (by omega) (by omega)
    have s1 := pow_small
    have s2 := pow_mid
    exact rmul_at a b c d _ _ _ _ _ _ _ w (by simp; omega) (by simp; omega) (fun w => of_any a w ha) (fun w => timesOf a c w hc) (fun w => of_any b w hb) (fun w => timesOf b d w hd) (fun w => lowest_big _ _ w (by omega) q0 (by omega))

set_option maxHeartbeats 1000000 in
theorem rsub_bad (a b c d e : Nat) (o : Int) (w : World) (he : ((e : Int) != 0) = true)
    (HC : Hid (∀ w, Calls Try.prog 12 #[.agg #[.int .u64 a, .int .u64 b], .agg #[.int .u64 c, .int .u64 d]] w fun r w' => r = .returned (.tuple #[.int .i64 o, .int .i64 e]) ∧ Below w.heap.size w w')) :
    Calls Try.prog 18 #[.agg #[.int .u64 a, .int .u64 b], .agg #[.int .u64 c, .int .u64 d]] w fun r w' => r = ans (0, 0, e) ∧ Below w.heap.size w w' := by
  go_enter Try.func18, Try.ntmps18
  go_wp2_with (go_at_call 12; refine (HC.out _).mono ?_; rintro r w0 ⟨rfl, bc⟩; have z2x := keep2 bc first2; have y0 : Hid (Below w.heap.size w w0) := below_from ((((Below.refl _ w).alloc (Nat.le_refl _) _).alloc (by simp) _).alloc (by simp; omega) _) bc (by simp; omega); obtain ⟨r0, ta, tb, tc, td, -, -⟩ := z2x)
  have rr := at_set2 (v := .int .u64 0) (v' := .int .u64 0) r0
  have c0 := Lib.cell_of_heap rr 0
  have c1' := Lib.cell_of_heap rr 1
  simp only [List.getElem?_toArray, List.getElem?_cons_zero, List.getElem?_cons_succ] at c0 c1'
  refine bodyPost_ret (by simp [results, Try.results18, go_sem, c0, c1']; rfl) rfl ?_
  exact ⟨rfl, (y0.out.setCell le2 _).setCell le2 _⟩

set_option maxHeartbeats 1000000 in
theorem rsub_less (a b c d : Nat) (o : Int) (w : World) (ho : o < 0)
    (HC : Hid (∀ w, Calls Try.prog 12 #[.agg #[.int .u64 a, .int .u64 b], .agg #[.int .u64 c, .int .u64 d]] w fun r w' => r = .returned (.tuple #[.int .i64 o, .int .i64 0]) ∧ Below w.heap.size w w')) :
    Calls Try.prog 18 #[.agg #[.int .u64 a, .int .u64 b], .agg #[.int .u64 c, .int .u64 d]] w fun r w' => r = ans (0, 0, 2) ∧ Below w.heap.size w w' := by
  go_enter Try.func18, Try.ntmps18
  go_wp2_with (go_at_call 12; refine (HC.out _).mono ?_; rintro r w0 ⟨rfl, bc⟩; have z2x := keep2 bc first2; have y0 : Hid (Below w.heap.size w w0) := below_from ((((Below.refl _ w).alloc (Nat.le_refl _) _).alloc (by simp) _).alloc (by simp; omega) _) bc (by simp; omega); obtain ⟨r0, ta, tb, tc, td, -, -⟩ := z2x)
  have rr := at_set2 (v := .int .u64 0) (v' := .int .u64 0) r0
  have c0 := Lib.cell_of_heap rr 0
  have c1' := Lib.cell_of_heap rr 1
  simp only [List.getElem?_toArray, List.getElem?_cons_zero, List.getElem?_cons_succ] at c0 c1'
  refine bodyPost_ret (by simp [results, Try.results18, go_sem, c0, c1']; rfl) rfl ?_
  exact ⟨rfl, (y0.out.setCell le2 _).setCell le2 _⟩

theorem rsub_any (a b c d : Nat) (w : World) (ha : a < 18446744073709551616) (hb : b < 18446744073709551616) (hc : c < 18446744073709551616) (hd : d < 18446744073709551616) :
    Calls Try.prog 18 #[.agg #[.int .u64 a, .int .u64 b], .agg #[.int .u64 c, .int .u64 d]] w fun e w' => e = ans (Q.subR a b c d) ∧ Below w.heap.size w w' := by
  unfold Q.subR
  have HC := fun w => rcmp_any a b c d w ha hb hc hd
  unfold Q.cmpR at HC
  by_cases h : b = 0 ∨ d = 0
  · rw [if_pos h]
    rw [if_pos h] at HC
    exact rsub_bad a b c d 4 0 w (by decide) HC
  · rw [if_neg h]
    rw [if_neg h] at HC
    by_cases hl : a * d < c * b
    · rw [if_pos hl]
      have : Q.ord (a * d) (c * b) = -1 := by unfold Q.ord; rw [if_pos hl]
      rw [this] at HC
      exact rsub_less a b c d (-1) w (by decide) HC
    · rw [if_neg hl]
      have p1 := prod_lt ha hd
      have p2 := prod_lt hc hb
      have p3 := prod_lt hb hd
      have q0 : 0 < b * d := Nat.mul_pos (by omega) (by omega)
      have s1 := pow_small
      have s2 := pow_mid
      have ho : decide (Q.ord (a * d) (c * b) < 0) = false := by
        rcases Q.ord_cases (a * d) (c * b) with ⟨e, h⟩ | ⟨e, h⟩ | ⟨e, h⟩
        · exact absurd h hl
        · rw [e]; decide
        · rw [e]; decide
      have hP : ∀ w, Calls Try.prog 33 #[.agg (bigR (BitVec.ofNat 256 (a * d))), .agg (bigR (BitVec.ofNat 256 (c * b)))] w fun e w' => e = .returned (.agg (bigR (BitVec.ofNat 256 (a * d - c * b)))) ∧ Below w.heap.size w w' := fun w => by
        have := minus_any (BitVec.ofNat 256 (a * d)) (BitVec.ofNat 256 (c * b)) w
        have e : (BitVec.ofNat 256 (a * d)) - (BitVec.ofNat 256 (c * b)) = BitVec.ofNat 256 (a * d - c * b) := by
          apply BitVec.eq_of_toNat_eq
          rw [BitVec.toNat_sub_of_le (by rw [BitVec.le_def, toNat_lt (by omega), toNat_lt (by omega)]; omega), toNat_lt (by omega), toNat_lt (by omega), toNat_lt (by omega)]
        rwa [e] at this
      exact rsub_at a b c d _ _ _ _ _ _ _ _ _ _ _ w ho HC (fun w => of_any a w ha) (fun w => timesOf a d w hd) (fun w => of_any c w hc) (fun w => timesOf c b w hb) hP (fun w => of_any b w hb) (fun w => timesOf b d w hd) (fun w => lowest_big _ _ w (by omega) q0 (by omega))

end Go.Proofs.Ytfcegoibelokpaa
