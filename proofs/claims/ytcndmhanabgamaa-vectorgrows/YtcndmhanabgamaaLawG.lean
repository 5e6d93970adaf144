/-
  The law VectorGrows out of the walks.
-/
import Derived.Test.YtcndmhanabgamaaGrow
import Derived.Test.YtcndmhanabgamaaGrowM
namespace Go.Proofs.Ytcndmhanabgamaa
open Go.RowKit

theorem cmp_new {x m n e : Nat} (hm : 0 < m) (he : 0 < e) (h : x * e ≤ n * m) : Q.ord (x / x.gcd m * (e / n.gcd e)) (n / n.gcd e * (m / x.gcd m)) ≤ 0 := by
  refine Q.ord_le.2 (Nat.le_of_not_lt fun hlt => ?_)
  have := (lt_low hm he).1 hlt
  omega

/-- a lowest fraction of small parts against another -/
theorem cmp_lows (x m n e : Nat) (hm : 0 < m) (he : 0 < e) (hx : x < 18446744073709551616) (hmb : m < 18446744073709551616) (hn : n < 18446744073709551616) (heb : e < 18446744073709551616) (w : World) :
    Calls Try.prog 24 #[.agg #[.int .u64 (x / x.gcd m : Nat), .int .u64 (m / x.gcd m : Nat)], .agg #[.int .u64 (n / n.gcd e : Nat), .int .u64 (e / n.gcd e : Nat)]] w fun r w' => r = .returned (.tuple #[.int .i64 (Q.ord (x / x.gcd m * (e / n.gcd e)) (n / n.gcd e * (m / x.gcd m))), .int .i64 0]) ∧ Below w.heap.size w w' :=
  rat_cmp_good (x / x.gcd m) (m / x.gcd m) (n / n.gcd e) (e / n.gcd e) w (div_lt hx) (div_lt hmb) (div_lt hn) (div_lt heb) (Nat.ne_of_gt (div_gcd_pos hm)) (Nat.ne_of_gt (div_gcd_pos he))

theorem share_as {v u : V} (n : Nat) (hv : v.ok = true) (hu : u.ok = true) (h1 : 1 ≤ n) (h2 : n ≤ 1000) (w : World) :
    Calls Try.prog 22 #[.agg #[.int .i64 v.a, .int .i64 v.b, .int .i64 v.c, .int .i64 v.d], .agg #[.int .i64 u.a, .int .i64 u.b, .int .i64 u.c, .int .i64 u.d], .int .i64 n] w fun r w' => r = .returned (.tuple #[.agg #[.int .u64 ((fS v u 4).1 / (fS v u 4).1.gcd ((fS v u 4).2 * n) : Nat), .int .u64 ((fS v u 4).2 * n / (fS v u 4).1.gcd ((fS v u 4).2 * n) : Nat)], .int .i64 0]) ∧ Below w.heap.size w w' := by
  have := share_good v u n w hv hu h1 h2
  have hb := fS_bound hv hu 4
  unfold Q.newR at this
  rw [if_neg (Nat.ne_of_gt (Nat.mul_pos hb.2.1 h1))] at this
  exact this

theorem at_add {v m : V} (hv : v.ok = true) (hm : m.ok = true) (i : Nat) : (v.at i).toNat ≤ ((v.add m).at i).toNat := by
  have h1 := okV hv
  have h2 := okV hm
  unfold V.at V.add
  split <;> simp only [] <;> omega

theorem law_grows (a b c d e f g h i j k l wt : Int) (w : World) (_ : -9223372036854775808 ≤ wt ∧ wt ≤ 9223372036854775807) :
    Calls Try.prog 8 #[.agg #[.int .i64 a, .int .i64 b, .int .i64 c, .int .i64 d, .int .i64 e, .int .i64 f, .int .i64 g, .int .i64 h, .int .i64 i, .int .i64 j, .int .i64 k, .int .i64 l], .int .i64 wt] w fun r w' => r = .returned (.bool true) ∧ Below w.heap.size w w' := by
  have A1 := add_any a b c d e f g h
  have S1 := share_any ⟨a, b, c, d⟩ ⟨i, j, k, l⟩ wt
  unfold addR at A1
  unfold shareR at S1
  by_cases hv : (V.ok ⟨a, b, c, d⟩ && V.ok ⟨e, f, g, h⟩) = true
  · rw [if_pos hv] at A1
    have hv' := Bool.and_eq_true_iff.1 hv
    by_cases hs : (V.add ⟨a, b, c, d⟩ ⟨e, f, g, h⟩).ok = true
    · rw [if_pos hs] at A1
      by_cases hu : V.ok ⟨i, j, k, l⟩ = true
      · rw [if_pos (by rw [hv'.1, hu]; rfl)] at S1
        by_cases hw : wt < 1 ∨ 1000 < wt
        · rw [if_pos hw] at S1
          exact grows_bad2 a b c d e f g h i j k l _ _ _ _ 2 wt 0 0 w rfl (fun w => A1 w) (fun w => S1 w)
        · obtain ⟨n, rfl⟩ : ∃ n : Nat, wt = n := ⟨wt.toNat, by omega⟩
          have hn1 : 1 ≤ n := by omega
          have hn2 : n ≤ 1000 := by omega
          clear S1
          have hb := fS_bound hv'.1 hu 4
          have hb2 := fS_bound hs hu 4
          have hg := fS_grows (all := ⟨i, j, k, l⟩) hu (at_add hv'.1 hv'.2)
          have S1 := share_as n hv'.1 hu hn1 hn2
          have S2 := share_as n hs hu hn1 hn2
          have m1 : (fS ⟨a, b, c, d⟩ ⟨i, j, k, l⟩ 4).2 * n ≤ 1099511627776 * 1000 := Nat.mul_le_mul hb.2.2 hn2
          have m2 : (fS (V.add ⟨a, b, c, d⟩ ⟨e, f, g, h⟩) ⟨i, j, k, l⟩ 4).2 * n ≤ 1099511627776 * 1000 := Nat.mul_le_mul hb2.2.2 hn2
          have q1 : 0 < (fS ⟨a, b, c, d⟩ ⟨i, j, k, l⟩ 4).2 * n := Nat.mul_pos hb.2.1 hn1
          have q2 : 0 < (fS (V.add ⟨a, b, c, d⟩ ⟨e, f, g, h⟩) ⟨i, j, k, l⟩ 4).2 * n := Nat.mul_pos hb2.2.1 hn1
          have C1 := cmp_lows (fS ⟨a, b, c, d⟩ ⟨i, j, k, l⟩ 4).1 ((fS ⟨a, b, c, d⟩ ⟨i, j, k, l⟩ 4).2 * n) (fS (V.add ⟨a, b, c, d⟩ ⟨e, f, g, h⟩) ⟨i, j, k, l⟩ 4).1 ((fS (V.add ⟨a, b, c, d⟩ ⟨e, f, g, h⟩) ⟨i, j, k, l⟩ 4).2 * n) q1 q2 (by omega) (by omega) (by omega) (by omega)
          have o1 : decide (0 < Q.ord ((fS ⟨a, b, c, d⟩ ⟨i, j, k, l⟩ 4).1 / (fS ⟨a, b, c, d⟩ ⟨i, j, k, l⟩ 4).1.gcd ((fS ⟨a, b, c, d⟩ ⟨i, j, k, l⟩ 4).2 * n) * ((fS (V.add ⟨a, b, c, d⟩ ⟨e, f, g, h⟩) ⟨i, j, k, l⟩ 4).2 * n / (fS (V.add ⟨a, b, c, d⟩ ⟨e, f, g, h⟩) ⟨i, j, k, l⟩ 4).1.gcd ((fS (V.add ⟨a, b, c, d⟩ ⟨e, f, g, h⟩) ⟨i, j, k, l⟩ 4).2 * n))) ((fS (V.add ⟨a, b, c, d⟩ ⟨e, f, g, h⟩) ⟨i, j, k, l⟩ 4).1 / (fS (V.add ⟨a, b, c, d⟩ ⟨e, f, g, h⟩) ⟨i, j, k, l⟩ 4).1.gcd ((fS (V.add ⟨a, b, c, d⟩ ⟨e, f, g, h⟩) ⟨i, j, k, l⟩ 4).2 * n) * ((fS ⟨a, b, c, d⟩ ⟨i, j, k, l⟩ 4).2 * n / (fS ⟨a, b, c, d⟩ ⟨i, j, k, l⟩ 4).1.gcd ((fS ⟨a, b, c, d⟩ ⟨i, j, k, l⟩ 4).2 * n)))) = false := by
            refine decide_eq_false ?_
            have := cmp_new q1 q2 (x := (fS ⟨a, b, c, d⟩ ⟨i, j, k, l⟩ 4).1) (n := (fS (V.add ⟨a, b, c, d⟩ ⟨e, f, g, h⟩) ⟨i, j, k, l⟩ 4).1) (by rw [← Nat.mul_assoc, ← Nat.mul_assoc]; exact Nat.mul_le_mul_right n hg)
            omega
          by_cases ht : n = 1000
          · subst ht
            exact grows_top a b c d e f g h i j k l _ _ _ _ _ _ _ _ _ w o1 (fun w => A1 w) (fun w => S1 w) (fun w => S2 w) (fun w => C1 w)
          · have S3 := share_as (n + 1) hv'.1 hu (by omega) (by omega)
            have m3 : (fS ⟨a, b, c, d⟩ ⟨i, j, k, l⟩ 4).2 * (n + 1) ≤ 1099511627776 * 1000 := Nat.mul_le_mul hb.2.2 (by omega)
            have q3 : 0 < (fS ⟨a, b, c, d⟩ ⟨i, j, k, l⟩ 4).2 * (n + 1) := Nat.mul_pos hb.2.1 (by omega)
            have C2 := cmp_lows (fS ⟨a, b, c, d⟩ ⟨i, j, k, l⟩ 4).1 ((fS ⟨a, b, c, d⟩ ⟨i, j, k, l⟩ 4).2 * (n + 1)) (fS ⟨a, b, c, d⟩ ⟨i, j, k, l⟩ 4).1 ((fS ⟨a, b, c, d⟩ ⟨i, j, k, l⟩ 4).2 * n) q3 q1 (by omega) (by omega) (by omega) (by omega)
            have o2 := cmp_new q3 q1 (x := (fS ⟨a, b, c, d⟩ ⟨i, j, k, l⟩ 4).1) (n := (fS ⟨a, b, c, d⟩ ⟨i, j, k, l⟩ 4).1) (Nat.mul_le_mul_left _ (Nat.mul_le_mul_left _ (by omega)))
            exact grows_more a b c d e f g h i j k l _ _ _ _ n ((n + 1 : Nat) : Int) _ _ _ _ _ _ _ _ w o1 o2 (by simp; omega) (by rw [wrap_ok (by omega) (by omega)]; simp) (fun w => A1 w) (fun w => S1 w) (fun w => S2 w) (fun w => C1 w) (fun w => S3 w) (fun w => C2 w)
      · rw [if_neg (by simp [hu])] at S1
        exact grows_bad2 a b c d e f g h i j k l _ _ _ _ 4 wt 0 0 w rfl (fun w => A1 w) (fun w => S1 w)
    · rw [if_neg hs] at A1
      exact grows_bad1 a b c d e f g h i j k l 0 0 0 0 7 _ wt _ _ w rfl (fun w => A1 w) (fun w => S1 w)
  · rw [if_neg hv] at A1
    exact grows_bad1 a b c d e f g h i j k l 0 0 0 0 4 _ wt _ _ w rfl (fun w => A1 w) (fun w => S1 w)

end Go.Proofs.Ytcndmhanabgamaa
