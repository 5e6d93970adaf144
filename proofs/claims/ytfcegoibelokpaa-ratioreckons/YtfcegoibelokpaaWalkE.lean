/-
  The contracts of the program's over and meet.
-/
import Derived.Test.YtfcegoibelokpaaWalkB
import Derived.Test.YtfcegoibelokpaaWalkD
namespace Go.Proofs.Ytfcegoibelokpaa
open Go.RowKit

theorem keep1c {W w1 : World} {a : Addr} {v : Value} (hb : Below W.heap.size W w1) (h : W.cell? a = some v) : w1.cell? a = some v := by
  rw [hb.cell (block_lt_of_cell h)]; exact h
theorem keep2c {W w1 : World} {a a2 : Addr} {v v2 : Value} (hb : Below W.heap.size W w1) (h : W.cell? a = some v ∧ W.cell? a2 = some v2) : w1.cell? a = some v ∧ w1.cell? a2 = some v2 := ⟨keep1c hb h.1, keep1c hb h.2⟩
theorem keep4c {W w1 : World} {a a2 a3 a4 : Addr} {v v2 v3 v4 : Value} (hb : Below W.heap.size W w1) (h : W.cell? a = some v ∧ W.cell? a2 = some v2 ∧ W.cell? a3 = some v3 ∧ W.cell? a4 = some v4) : w1.cell? a = some v ∧ w1.cell? a2 = some v2 ∧ w1.cell? a3 = some v3 ∧ w1.cell? a4 = some v4 := ⟨keep1c hb h.1, keep1c hb h.2.1, keep1c hb h.2.2.1, keep1c hb h.2.2.2⟩
theorem keep1t {W : World} {a : Addr} {v x : Value} {g k : Nat} (hlt : a.block < g) (h : W.cell? a = some v) : (W.setCell ⟨g, k, none⟩ x).cell? a = some v := by
  rw [((Below.refl g W).setCell (Nat.le_refl _) x).cell hlt]; exact h
theorem keep2t {W : World} {a a2 : Addr} {v v2 x : Value} {g k : Nat} (h1 : a.block < g) (h2 : a2.block < g) (h : W.cell? a = some v ∧ W.cell? a2 = some v2) : (W.setCell ⟨g, k, none⟩ x).cell? a = some v ∧ (W.setCell ⟨g, k, none⟩ x).cell? a2 = some v2 := ⟨keep1t h1 h.1, keep1t h2 h.2⟩
theorem keep4t {W : World} {a a2 a3 a4 : Addr} {v v2 v3 v4 x : Value} {g k : Nat} (h1 : a.block < g) (h2 : a2.block < g) (h3 : a3.block < g) (h4 : a4.block < g) (h : W.cell? a = some v ∧ W.cell? a2 = some v2 ∧ W.cell? a3 = some v3 ∧ W.cell? a4 = some v4) : (W.setCell ⟨g, k, none⟩ x).cell? a = some v ∧ (W.setCell ⟨g, k, none⟩ x).cell? a2 = some v2 ∧ (W.setCell ⟨g, k, none⟩ x).cell? a3 = some v3 ∧ (W.setCell ⟨g, k, none⟩ x).cell? a4 = some v4 := ⟨keep1t h1 h.1, keep1t h2 h.2.1, keep1t h3 h.2.2.1, keep1t h4 h.2.2.2⟩
theorem below_fromE {B : Nat} {w W w1 : World} (h : Below B w W) (b : Below W.heap.size W w1) (hB : B ≤ W.heap.size := by simp; omega) : Below B w w1 := h.trans (b.mono hB)

theorem at_drewN {w : World} {n k : Nat} {x : Obj} (h : w.heap[n]? = some x) : (w.drewN k).heap[n]? = some x := h
theorem first2' {w : World} {A B C : Obj} : (((w.alloc A).alloc B).alloc C).heap[w.heap.size + 1 + 1]? = some C := first2

theorem at_set2E {W : World} {g : Nat} {x y v v' : Value} {ty : TypeId} (h : W.heap[g]? = some (.cells #[x, y] ty)) : ((W.setCell ⟨g, 0, none⟩ v).setCell ⟨g, 1, none⟩ v').heap[g]? = some (.cells #[v, v'] ty) :=
  heap_setCell_same _ g 1 #[v, y] ty v' (heap_setCell_same W g 0 #[x, y] ty v h)
theorem set2_0 {W : World} {g : Nat} {x y v v' : Value} {ty : TypeId} (h : W.heap[g]? = some (.cells #[x, y] ty)) : ((W.setCell ⟨g, 0, none⟩ v).setCell ⟨g, 1, none⟩ v').cell? ⟨g, 0, none⟩ = some v := Lib.cell_of_heap (at_set2E h) 0
theorem set2_1 {W : World} {g : Nat} {x y v v' : Value} {ty : TypeId} (h : W.heap[g]? = some (.cells #[x, y] ty)) : ((W.setCell ⟨g, 0, none⟩ v).setCell ⟨g, 1, none⟩ v').cell? ⟨g, 1, none⟩ = some v' := Lib.cell_of_heap (at_set2E h) 1

/-- the numbers that are laid beside one another -/
def meetV (l r f rest g : Nat) : Value := .agg #[.int .u64 (l / 18446744073709551616 : Nat), .int .u64 (l % 18446744073709551616 : Nat), .int .u64 (r / 18446744073709551616 : Nat), .int .u64 (r % 18446744073709551616 : Nat), .int .u64 f, .int .u64 rest, .int .u64 g]

set_option maxHeartbeats 1000000 in
theorem over_big (l1 l2 r1 r2 f r g k hi lo rm : Nat) (w : World)
    (hr : ∀ w, Calls Try.prog 40 #[.int .u64 hi, .int .u64 lo, .int .u64 g] w fun e w' => e = .returned (.int .u64 rm) ∧ ∃ n, w' = w.drewN n)
    (hg : ∀ w, Calls Try.prog 34 #[.int .u64 rm, .int .u64 g] w fun e w' => e = .returned (.int .u64 k) ∧ ∃ n, w' = w.drewN n) (hk : k ≤ hi) :
    Calls Try.prog 29 #[.agg #[.int .u64 l1, .int .u64 l2, .int .u64 r1, .int .u64 r2, .int .u64 f, .int .u64 r, .int .u64 g], .agg #[.int .u64 hi, .int .u64 lo]] w fun e w' => e = ans (0, 0, 7) ∧ Below w.heap.size w w' := by
  have HR : Hid (∀ w, Calls Try.prog 40 #[.int .u64 hi, .int .u64 lo, .int .u64 g] w fun e w' => e = .returned (.int .u64 rm) ∧ ∃ n, w' = w.drewN n) := hr
  have HG : Hid (∀ w, Calls Try.prog 34 #[.int .u64 rm, .int .u64 g] w fun e w' => e = .returned (.int .u64 k) ∧ ∃ n, w' = w.drewN n) := hg
  clear hr hg
  have hk' : (k : Int) ≤ (hi : Int) := by omega
  go_enter Try.func29, Try.ntmps29
  go_wp2_with fail
  go_quiet (first | (go_at_call 40; exact Calls.quiet_of (HR.out _)) | (go_at_call 34; exact Calls.quiet_of (HG.out _)))
  go_wp2_with fail
  go_returns
  refine ⟨rfl, ?_⟩
  refine ((below_drewN ?_ _).setCell (by simp; omega) _).setCell (by simp; omega) _
  go_grown

set_option maxHeartbeats 2000000 in
theorem over_fine (l1 l2 r1 r2 f r g k hi lo rm q rq p1 p2 x1 x2 x3 rk : Nat) (w : World)
    (hr : ∀ w, Calls Try.prog 40 #[.int .u64 hi, .int .u64 lo, .int .u64 g] w fun e w' => e = .returned (.int .u64 rm) ∧ ∃ n, w' = w.drewN n)
    (hg : ∀ w, Calls Try.prog 34 #[.int .u64 rm, .int .u64 g] w fun e w' => e = .returned (.int .u64 k) ∧ ∃ n, w' = w.drewN n) (hk : hi < k)
    (hd : ∀ w, Calls Try.prog 41 #[.int .u64 hi, .int .u64 lo, .int .u64 k] w fun e w' => e = .returned (.tuple #[.int .u64 q, .int .u64 rq]) ∧ ∃ n, w' = w.drewN n)
    (hrk : IntKind.u64.wrap ((r : Int) / (k : Int)) = (rk : Int))
    (ht : ∀ w, Calls Try.prog 36 #[.int .u64 f, .int .u64 rk] w fun e w' => e = .returned (.agg #[.int .u64 p1, .int .u64 p2]) ∧ Below w.heap.size w w')
    (hn : ∀ w, Calls Try.prog 35 #[.agg #[.int .u64 0, .int .u64 q], .agg #[.int .u64 p1, .int .u64 p2]] w fun e w' => e = .returned (.tuple #[.agg #[.int .u64 x1, .int .u64 x2], .int .i64 x3]) ∧ Below w.heap.size w w') :
    Calls Try.prog 29 #[.agg #[.int .u64 l1, .int .u64 l2, .int .u64 r1, .int .u64 r2, .int .u64 f, .int .u64 r, .int .u64 g], .agg #[.int .u64 hi, .int .u64 lo]] w fun e w' => e = ans (x1, x2, x3) ∧ Below w.heap.size w w' := by
  have HR : Hid (∀ w, Calls Try.prog 40 #[.int .u64 hi, .int .u64 lo, .int .u64 g] w fun e w' => e = .returned (.int .u64 rm) ∧ ∃ n, w' = w.drewN n) := hr
  have HG : Hid (∀ w, Calls Try.prog 34 #[.int .u64 rm, .int .u64 g] w fun e w' => e = .returned (.int .u64 k) ∧ ∃ n, w' = w.drewN n) := hg
  have HD : Hid (∀ w, Calls Try.prog 41 #[.int .u64 hi, .int .u64 lo, .int .u64 k] w fun e w' => e = .returned (.tuple #[.int .u64 q, .int .u64 rq]) ∧ ∃ n, w' = w.drewN n) := hd
  have HT : Hid (∀ w, Calls Try.prog 36 #[.int .u64 f, .int .u64 rk] w fun e w' => e = .returned (.agg #[.int .u64 p1, .int .u64 p2]) ∧ Below w.heap.size w w') := ht
  have HN : Hid (∀ w, Calls Try.prog 35 #[.agg #[.int .u64 0, .int .u64 q], .agg #[.int .u64 p1, .int .u64 p2]] w fun e w' => e = .returned (.tuple #[.agg #[.int .u64 x1, .int .u64 x2], .int .i64 x3]) ∧ Below w.heap.size w w') := hn
  clear hr hg hd ht hn
  have hk' : ¬ ((k : Int) ≤ (hi : Int)) := by omega
  have hk0 : ¬ ((k : Int) = 0) := by omega
  have hk1 : ((k : Int) == 0) = false := by simp; omega
  go_enter Try.func29, Try.ntmps29
  go_wp2_with fail
  go_quiet (first | (go_at_call 40; exact Calls.quiet_of (HR.out _)) | (go_at_call 34; exact Calls.quiet_of (HG.out _)))
  go_wp2_with (go_at_call 41; refine (HD.out _).mono ?_; rintro e w' ⟨rfl, nd, rfl⟩)
  clear HR HG HD
  go_region_held (fun w' : World => w'.cell? ⟨w.heap.size, 4, none⟩ = some (.int .u64 f) ∧ w'.cell? ⟨w.heap.size, 5, none⟩ = some (.int .u64 r)) (repeat' (first | (with_reducible assumption) | (with_reducible refine keep2c b1 ?_) | (with_reducible refine keep2c b2 ?_) | (with_reducible refine keep2t ?_ ?_ ?_) | (simp; omega) | go_keep))
    (first | (go_at_call 36; refine (HT.out _).mono ?_; rintro e w1 ⟨rfl, b1⟩; have y1 := below_fromE (B := w.heap.size) (w := w) (by exact below_drewN (by go_grown) _) b1; obtain ⟨z1, z2, z3, z4, z5, z6, z7⟩ := keep2 b1 (g := w.heap.size + 1 + 1) (x := .int .u64 0) (y := .int .u64 0) (ty := 24) (at_drewN first2')) | (go_at_call 35; refine (HN.out _).mono ?_; rintro e w2 ⟨rfl, b2⟩; have y2 := below_fromE y1 b2 (by omega); obtain ⟨v1, v2, v3, v4, v5, v6, v7⟩ := keep2 b2 (g := w.heap.size + 1 + 1) (x := .int .u64 0) (y := .int .u64 0) (ty := 24) z1))
  go_wp2_with fail
  have c0 := set2_0 (v := .int .u64 x1) (v' := .int .u64 x2) v1
  have c1 := set2_1 (v := .int .u64 x1) (v' := .int .u64 x2) v1
  refine bodyPost_ret (by simp [results, Try.results29, go_sem, c0, c1]; rfl) rfl ?_
  refine ⟨rfl, ?_⟩
  exact (y2.setCell (by simp; omega) _).setCell (by simp; omega) _

theorem narrow_eq {q p : Nat} (hq : q < 18446744073709551616) : (if p / 18446744073709551616 ≠ 0 then (0, 0, 7) else (q, p, 0)) = Q.narrowR q p := by
  unfold Q.narrowR
  by_cases c : p / 18446744073709551616 = 0
  · rw [if_neg (by omega), if_neg (by omega)]
  · rw [if_pos c, if_pos (by omega)]

theorem narrow_any (q p : Nat) (hq : q < 18446744073709551616) (w : World) :
    Calls Try.prog 35 #[.agg #[.int .u64 0, .int .u64 q], wideV p] w fun e w' => e = ans (Q.narrowR q p) ∧ Below w.heap.size w w' := by
  unfold Q.narrowR wideV
  by_cases h : p / 18446744073709551616 = 0
  · rw [if_neg (by omega), h, show p % 18446744073709551616 = p by omega]
    exact narrow_fine q p w
  · rw [if_pos (by omega)]
    exact narrow_over 0 q _ _ (Or.inr h) w

theorem over_any (x l r f rest g : Nat) (w : World) (hx : x < 340282366920938463463374607431768211456) (hf : f < 18446744073709551616) (hr : rest < 18446744073709551616) (hg : g < 18446744073709551616) (h0 : 0 < g) :
    Calls Try.prog 29 #[meetV l r f rest g, wideV x] w fun e w' => e = ans (Q.overR x f rest g) ∧ Below w.heap.size w w' := by
  have hrm := fun w => rem64_any x g (x % g) w hg h0 hx rfl
  have hml := Nat.mod_lt x h0
  have hgc := fun w => gcd_any (x % g) g w (by omega) hg
  have hk0 : 0 < (x % g).gcd g := Nat.gcd_pos_of_pos_right _ h0
  have hkl : (x % g).gcd g < 18446744073709551616 := Nat.lt_of_le_of_lt (Nat.le_of_dvd h0 (Nat.gcd_dvd_right _ _)) hg
  unfold Q.overR meetV wideV
  generalize (x % g).gcd g = k at *
  by_cases hk : k ≤ x / 18446744073709551616
  · rw [if_pos hk]
    exact over_big _ _ _ _ f rest g k _ _ _ w hrm hgc hk
  · rw [if_neg hk]
    have hq : x / k < 18446744073709551616 := by
      rw [Nat.div_lt_iff_lt_mul hk0]
      have : x < (x / 18446744073709551616 + 1) * 18446744073709551616 := by omega
      refine Nat.lt_of_lt_of_le this ?_
      rw [Nat.mul_comm]
      exact Nat.mul_le_mul_left _ (by omega)
    have hdv := fun w => div64_any x k (x / k) (x % k) w hkl (by omega) rfl rfl
    have hrk := div_u64 rest k hr
    have hrl : rest / k < 18446744073709551616 := Nat.lt_of_le_of_lt (Nat.div_le_self _ _) hr
    have htm := fun w => times_any f (rest / k) w hf hrl
    have hnr := fun w => narrow_any (x / k) (f * (rest / k)) hq w
    rw [narrow_eq hq]
    obtain ⟨x1, x2, x3, hR⟩ : ∃ x1 x2 x3, Q.narrowR (x / k) (f * (rest / k)) = (x1, x2, x3) := ⟨_, _, _, rfl⟩
    rw [hR]
    simp only [hR, ans, wideV] at hnr htm
    exact over_fine _ _ _ _ f rest g k _ _ (x % g) (x / k) (x % k) _ _ x1 x2 x3 (rest / k) w hrm hgc (by omega) hdv hrk htm hnr

end Go.Proofs.Ytfcegoibelokpaa
