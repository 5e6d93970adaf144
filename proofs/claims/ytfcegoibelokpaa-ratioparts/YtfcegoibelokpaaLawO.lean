/-
  The walk of the law RatioOrder: it returns true and writes nothing that was there.
-/
import Derived.Test.YtfcegoibelokpaaWalkH
namespace Go.Proofs.Ytfcegoibelokpaa
open Go.RowKit

abbrev rt (n d : Nat) : Value := .agg #[.int .u64 n, .int .u64 d]

theorem keep1a {W : World} {o : Obj} {a : Addr} {v : Value} (h : W.cell? a = some v) : (W.alloc o).cell? a = some v := keep1c' ((Below.refl _ W).alloc (Nat.le_refl _) _) h

set_option maxHeartbeats 4000000 in
theorem order_at (a b c d f h k e1 e2 e3 e4 am bm : Nat) (w : World) (o1 o2 o3 o4 : Int) (hk : k < 65536)
    (C1 : Hid (∀ w, Calls Try.prog 11 #[.agg #[.int .u64 a, .int .u64 b], .agg #[.int .u64 c, .int .u64 d]] w fun e w' => e = .returned (.tuple #[.int .i64 o1, .int .i64 (e1 : Nat)]) ∧ Below w.heap.size w w'))
    (C2 : Hid (∀ w, Calls Try.prog 11 #[.agg #[.int .u64 c, .int .u64 d], .agg #[.int .u64 f, .int .u64 h]] w fun e w' => e = .returned (.tuple #[.int .i64 o2, .int .i64 (e2 : Nat)]) ∧ Below w.heap.size w w'))
    (C3 : Hid (∀ w, Calls Try.prog 11 #[.agg #[.int .u64 a, .int .u64 b], .agg #[.int .u64 f, .int .u64 h]] w fun e w' => e = .returned (.tuple #[.int .i64 o3, .int .i64 (e3 : Nat)]) ∧ Below w.heap.size w w'))
    (C4 : Hid (∀ w, Calls Try.prog 11 #[.agg #[.int .u64 c, .int .u64 d], .agg #[.int .u64 a, .int .u64 b]] w fun e w' => e = .returned (.tuple #[.int .i64 o4, .int .i64 (e4 : Nat)]) ∧ Below w.heap.size w w'))
    (C5 : Hid (a ≤ 1099511627776 → b ≤ 1099511627776 → (IntKind.u64.wrap ((a : Int) * ((k : Int) + 1)) = (am : Int) ∧ IntKind.u64.wrap ((b : Int) * ((k : Int) + 1)) = (bm : Int)) ∧ (b ≠ 0 → ∀ w, Calls Try.prog 11 #[.agg #[.int .u64 a, .int .u64 b], .agg #[.int .u64 am, .int .u64 bm]] w fun e w' => e = .returned (.tuple #[.int .i64 0, .int .i64 0]) ∧ Below w.heap.size w w')))
    (hcase : (b = 0 ∧ e1 = 4) ∨ (b ≠ 0 ∧ d = 0 ∧ e1 = 4) ∨ (b ≠ 0 ∧ d ≠ 0 ∧ h = 0 ∧ e1 = 0 ∧ e2 = 4) ∨ (b ≠ 0 ∧ e1 = 0 ∧ e2 = 0 ∧ e3 = 0 ∧ e4 = 0 ∧ o4 = -o1 ∧ (-1 ≤ o1 ∧ o1 ≤ 1 ∧ -1 ≤ o2 ∧ o2 ≤ 1 ∧ -1 ≤ o3 ∧ o3 ≤ 1) ∧ (o1 ≤ 0 → o2 ≤ 0 → o3 ≤ 0) ∧ (0 ≤ o1 → 0 ≤ o2 → 0 ≤ o3))) :
    Calls Try.prog 5 #[.agg #[.int .u64 a, .int .u64 b, .int .u64 c, .int .u64 d, .int .u64 f, .int .u64 h], .int .u16 k] w fun e w' => e = .returned (.bool true) ∧ Below w.heap.size w w' := by
  go_enter Try.func5, Try.ntmps5
  go_wp2_with fail
  go_cut [5, 6, 7] from 19 to 24 (fun s5 s6 s7 wx => ∃ g5 g6 g7 : Nat, s5 = .pointer (some ⟨g5, 0, none⟩) ∧ s6 = .pointer (some ⟨g6, 0, none⟩) ∧ s7 = .pointer (some ⟨g7, 0, none⟩) ∧ wx.heap[g5]? = some (.cells #[.int .u64 a, .int .u64 b] 24) ∧ wx.heap[g6]? = some (.cells #[.int .u64 c, .int .u64 d] 24) ∧ wx.heap[g7]? = some (.cells #[.int .u64 f, .int .u64 h] 24) ∧ Hid (Below w.heap.size w wx))
  case first =>
    go_region_held3 (fun w' : World => w'.cell? ⟨w.heap.size, 0, none⟩ = some (.int .u64 a) ∧ w'.cell? ⟨w.heap.size, 1, none⟩ = some (.int .u64 b) ∧ w'.cell? ⟨w.heap.size, 2, none⟩ = some (.int .u64 c) ∧ w'.cell? ⟨w.heap.size, 3, none⟩ = some (.int .u64 d) ∧ w'.cell? ⟨w.heap.size, 4, none⟩ = some (.int .u64 f) ∧ w'.cell? ⟨w.heap.size, 5, none⟩ = some (.int .u64 h)) (go_keep) (fail)
    all_goals (go_wp2_with fail; go_meet)
    all_goals (refine ⟨_, _, _, rfl, rfl, rfl, ?_, ?_, ?_, ?_⟩)
    all_goals (repeat' (first | (with_reducible refine at_drew ?_) | (with_reducible refine newN ?_; (simp; done)) | (with_reducible refine at_alloc ?_) | (unfold Hid; go_grown; done)))
  case rest =>
    obtain ⟨g5, g6, g7, rfl, rfl, rfl, p5, p6, p7, hbl⟩ := hcut
    have HK : Hid ((b = 0 ∧ e1 = 4) ∨ (b ≠ 0 ∧ d = 0 ∧ e1 = 4) ∨ (b ≠ 0 ∧ d ≠ 0 ∧ h = 0 ∧ e1 = 0 ∧ e2 = 4) ∨ (b ≠ 0 ∧ e1 = 0 ∧ e2 = 0 ∧ e3 = 0 ∧ e4 = 0 ∧ o4 = -o1 ∧ (-1 ≤ o1 ∧ o1 ≤ 1 ∧ -1 ≤ o2 ∧ o2 ≤ 1 ∧ -1 ≤ o3 ∧ o3 ≤ 1) ∧ (o1 ≤ 0 → o2 ≤ 0 → o3 ≤ 0) ∧ (0 ≤ o1 → 0 ≤ o2 → 0 ≤ o3))) := hcase
    clear hcase
    go_wp2_with (go_at_call 8; refine (awake_any _).mono ?_)
    rintro e w1 ⟨rfl, b1⟩
    have y1 : Hid (Below w.heap.size w w1) := below_from hbl.out b1 hbl.out.size
    obtain ⟨p5, q1, q2, -, -, -, -⟩ := keep2 b1 p5
    obtain ⟨p6, q3, q4, -, -, -, -⟩ := keep2 b1 p6
    obtain ⟨p7, q5, q6, -, -, -, -⟩ := keep2 b1 p7
    clear b1 hbl
    go_wp2_with (go_at_call 11; refine (C1.out _).mono ?_)
    rintro e w2 ⟨rfl, b1⟩
    have y2 : Hid (Below w.heap.size w w2) := below_from y1.out b1 y1.out.size
    obtain ⟨p5, q1, q2, -, -, -, -⟩ := keep2 b1 p5
    obtain ⟨p6, q3, q4, -, -, -, -⟩ := keep2 b1 p6
    obtain ⟨p7, q5, q6, -, -, -, -⟩ := keep2 b1 p7
    clear b1 y1
    go_wp2_with (go_at_call 11; refine (C2.out _).mono ?_)
    rintro e w3 ⟨rfl, b1⟩
    have y3 : Hid (Below w.heap.size w w3) := below_from y2.out b1 y2.out.size
    obtain ⟨p5, q1, q2, -, -, -, -⟩ := keep2 b1 p5
    obtain ⟨p6, q3, q4, -, -, -, -⟩ := keep2 b1 p6
    obtain ⟨p7, q5, q6, -, -, -, -⟩ := keep2 b1 p7
    clear b1 y2
    go_wp2_with (go_at_call 11; refine (C3.out _).mono ?_)
    rintro e w4 ⟨rfl, b1⟩
    have y4 : Hid (Below w.heap.size w w4) := below_from y3.out b1 y3.out.size
    obtain ⟨p5, q1, q2, -, -, -, -⟩ := keep2 b1 p5
    obtain ⟨p6, q3, q4, -, -, -, -⟩ := keep2 b1 p6
    obtain ⟨p7, q5, q6, -, -, -, -⟩ := keep2 b1 p7
    clear b1 y3
    go_upto_region 8 with (go_at_call 11; refine (C4.out _).mono ?_)
    rintro e w5 ⟨rfl, b1⟩
    have y5 : Hid (Below w.heap.size w w5) := below_from y4.out b1 y4.out.size
    obtain ⟨p5, q1, q2, -, -, -, -⟩ := keep2 b1 p5
    obtain ⟨p6, q3, q4, -, -, -, -⟩ := keep2 b1 p6
    obtain ⟨p7, q5, q6, -, -, -, -⟩ := keep2 b1 p7
    clear b1 y4 C1 C2 C3 C4 p6 p7
    rcases HK.out with ⟨rfl, rfl⟩ | ⟨h1, rfl, rfl⟩ | ⟨h1, h2, rfl, rfl, rfl⟩ | ⟨h1, rfl, rfl, rfl, rfl, ho4, hr, ht1, ht2⟩
    · clear HK C5
      go_wp2_with fail
      go_ret
      exact ⟨rfl, y5.out⟩
    · clear HK C5
      have h1' : ((b : Int) == 0) = false := by simp; omega
      go_wp2_with fail
      go_ret
      exact ⟨rfl, y5.out⟩
    · clear HK C5
      have h1' : ((b : Int) == 0) = false := by simp; omega
      have h2' : ((d : Int) == 0) = false := by simp; omega
      go_wp2_with fail
      go_ret
      exact ⟨rfl, y5.out⟩
    · clear HK
      subst ho4
      go_upto_region 10 with fail
      go_cut [105] from 78 to 104 (fun s wx => s = .bool false ∧ wx = w5)
      case first =>
        clear C5
        obtain ⟨r1, r2, r3, r4, r5, r6⟩ := hr
        have k1 : o1 = -1 ∨ o1 = 0 ∨ o1 = 1 := by omega
        have k2 : o2 = -1 ∨ o2 = 0 ∨ o2 = 1 := by omega
        have k3 : o3 = -1 ∨ o3 = 0 ∨ o3 = 1 := by omega
        clear r1 r2 r3 r4 r5 r6
        rcases k1 with rfl | rfl | rfl <;> rcases k2 with rfl | rfl | rfl <;> rcases k3 with rfl | rfl | rfl
        all_goals first
          | (exfalso; omega)
          | (clear ht1 ht2; go_wp2_with fail; go_meet; exact ⟨rfl, rfl⟩)
      case rest =>
        obtain ⟨rfl, hwc⟩ := hcut
        have hwc' := hwc.symm
        subst hwc'
        clear hr ht1 ht2
        by_cases g1 : 1099511627776 < a
        · have g1' : (1099511627776 : Int) < (a : Int) := by omega
          clear C5
          go_wp2_with fail
          go_ret
          exact ⟨rfl, y5.out⟩
        · have g1' : ¬ ((1099511627776 : Int) < (a : Int)) := by omega
          by_cases g2 : 1099511627776 < b
          · have g2' : (1099511627776 : Int) < (b : Int) := by omega
            clear C5
            go_wp2_with fail
            go_ret
            exact ⟨rfl, y5.out⟩
          · have g2' : ¬ ((1099511627776 : Int) < (b : Int)) := by omega
            obtain ⟨⟨E1, E2⟩, H5⟩ := C5.out (by omega) (by omega)
            have H6 : Hid (∀ w, Calls Try.prog 11 #[.agg #[.int .u64 a, .int .u64 b], .agg #[.int .u64 am, .int .u64 bm]] w fun e w' => e = .returned (.tuple #[.int .i64 0, .int .i64 0]) ∧ Below w.heap.size w w') := H5 h1
            clear C5 H5 g1 g2
            go_wp2_with (go_at_call 11; refine (H6.out _).mono ?_)
            rintro e w6 rfl b6
            go_wp2_with fail
            go_ret
            exact ⟨rfl, below_from y5.out b6 y5.out.size⟩

theorem law_order (a b c d f h k : Nat) (w : World) (ha : a < 18446744073709551616) (hb : b < 18446744073709551616) (hc : c < 18446744073709551616) (hd : d < 18446744073709551616) (hf : f < 18446744073709551616) (hh : h < 18446744073709551616) (hk : k < 65536) :
    Calls Try.prog 5 #[.agg #[.int .u64 a, .int .u64 b, .int .u64 c, .int .u64 d, .int .u64 f, .int .u64 h], .int .u16 k] w fun e w' => e = .returned (.bool true) ∧ Below w.heap.size w w' := by
  refine order_at a b c d f h k (Q.cmpR a b c d).2 (Q.cmpR c d f h).2 (Q.cmpR a b f h).2 (Q.cmpR c d a b).2 (a * (k + 1)) (b * (k + 1)) w (Q.cmpR a b c d).1 (Q.cmpR c d f h).1 (Q.cmpR a b f h).1 (Q.cmpR c d a b).1 hk
    (fun w => cmp_any a b c d w ha hb hc hd) (fun w => cmp_any c d f h w hc hd hf hh) (fun w => cmp_any a b f h w ha hb hf hh) (fun w => cmp_any c d a b w hc hd ha hb) ?_ ?_
  · intro h1 h2
    have m1 : a * (k + 1) ≤ 1099511627776 * 65536 := Nat.mul_le_mul h1 (by omega)
    have m2 : b * (k + 1) ≤ 1099511627776 * 65536 := Nat.mul_le_mul h2 (by omega)
    have e1 : (a : Int) * ((k : Int) + 1) = ((a * (k + 1) : Nat) : Int) := by simp
    have e2 : (b : Int) * ((k : Int) + 1) = ((b * (k + 1) : Nat) : Int) := by simp
    refine ⟨⟨?_, ?_⟩, fun hb0 w => ?_⟩
    · rw [e1, IntKind.wrap_u64]; omega
    · rw [e2, IntKind.wrap_u64]; omega
    · have hm : b * (k + 1) ≠ 0 := Nat.mul_ne_zero hb0 (by omega)
      have := cmp_good a b (a * (k + 1)) (b * (k + 1)) w ha hb (by omega) (by omega) hb0 hm
      rw [show a * (b * (k + 1)) = a * (k + 1) * b by ac_rfl, Q.ord_self] at this
      exact this
  · unfold Q.cmpR
    by_cases h1 : b = 0
    · left; subst h1; exact ⟨rfl, by simp⟩
    · by_cases h2 : d = 0
      · right; left; subst h2; exact ⟨h1, rfl, by simp⟩
      · by_cases h3 : h = 0
        · right; right; left; subst h3; exact ⟨h1, h2, rfl, by rw [if_neg (by omega)], by simp⟩
        · right; right; right
          rw [if_neg (by omega), if_neg (by omega), if_neg (by omega), if_neg (by omega)]
          refine ⟨h1, rfl, rfl, rfl, rfl, Q.ord_swap _ _, ?_, ?_, ?_⟩
          · have r1 := Q.ord_cases (a * d) (c * b)
            have r2 := Q.ord_cases (c * h) (f * d)
            have r3 := Q.ord_cases (a * h) (f * b)
            simp only []
            omega
          · intro x1 x2
            exact Q.ord_le.2 (Q.le_trans' (by omega) (Q.ord_le.1 x1) (Q.ord_le.1 x2))
          · intro x1 x2
            refine Q.ord_ge.2 ?_
            exact Q.le_trans' (by omega) (Q.ord_ge.1 x2) (Q.ord_ge.1 x1)

end Go.Proofs.Ytfcegoibelokpaa
