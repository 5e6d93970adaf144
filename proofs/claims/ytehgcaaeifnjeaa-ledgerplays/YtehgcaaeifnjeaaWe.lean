/-
  The ledger's functions taken and given.
-/
import Derived.Test.YtehgcaaeifnjeaaWd
namespace Go.Proofs.Ytehgcaaeifnjeaa
open Go.RowKit Go.Maps Go.WideMaps

/-- an account and an error's number -/
def ansA (l u : V) (k : Int) : Ending := .returned (.tuple #[.agg (c8 l u), .int .i64 k])
theorem at_set8b {W : World} {g : Nat} {x0 x1 x2 x3 x4 x5 x6 x7 v4 v5 v6 v7 : Value} {ty : TypeId} (h : W.heap[g]? = some (.cells #[x0, x1, x2, x3, x4, x5, x6, x7] ty (0, 0))) : ((((W.setCell ⟨g, 4, none⟩ v4).setCell ⟨g, 5, none⟩ v5).setCell ⟨g, 6, none⟩ v6).setCell ⟨g, 7, none⟩ v7).heap[g]? = some (.cells #[x0, x1, x2, x3, v4, v5, v6, v7] ty (0, 0)) :=
  setB (setB (setB (setB h v4) v5) v6) v7
theorem at_set8a {W : World} {g : Nat} {x0 x1 x2 x3 x4 x5 x6 x7 v0 v1 v2 v3 v4 v5 v6 v7 : Value} {ty : TypeId} (h : W.heap[g]? = some (.cells #[x0, x1, x2, x3, x4, x5, x6, x7] ty (0, 0))) : ((((((((W.setCell ⟨g, 0, none⟩ v0).setCell ⟨g, 1, none⟩ v1).setCell ⟨g, 2, none⟩ v2).setCell ⟨g, 3, none⟩ v3).setCell ⟨g, 4, none⟩ v4).setCell ⟨g, 5, none⟩ v5).setCell ⟨g, 6, none⟩ v6).setCell ⟨g, 7, none⟩ v7).heap[g]? = some (.cells #[v0, v1, v2, v3, v4, v5, v6, v7] ty (0, 0)) :=
  at_set8b (at_set8 h)
set_option maxHeartbeats 2000000 in
theorem taken_err (a b c d e f g h i j k l : Int) (w : World)
    (H : Hid (∀ w, Calls Try.prog 48 #[.agg #[.int .i64 e, .int .i64 f, .int .i64 g, .int .i64 h], .agg #[.int .i64 i, .int .i64 j, .int .i64 k, .int .i64 l]] w fun r w' => r = .returned (.tuple #[.agg #[.int .i64 0, .int .i64 0, .int .i64 0, .int .i64 0], .int .i64 7]) ∧ Below w.heap.size w w')) :
    Calls Try.prog 38 #[.agg #[.int .i64 a, .int .i64 b, .int .i64 c, .int .i64 d, .int .i64 e, .int .i64 f, .int .i64 g, .int .i64 h], .agg #[.int .i64 i, .int .i64 j, .int .i64 k, .int .i64 l]] w fun r w' => r = ansA V.nil V.nil 9 ∧ Below w.heap.size w w' := by
  go_enter Try.func38, Try.ntmps38
  go_wp2_with (go_at_call 48; refine (H.out _).mono ?_)
  rintro _ w1 ⟨rfl, b1⟩
  have x2 := at_below b1 (Nat.le_refl _) (new2 (w := w) (A := .cells #[.int .i64 a, .int .i64 b, .int .i64 c, .int .i64 d, .int .i64 e, .int .i64 f, .int .i64 g, .int .i64 h] 69) (B := .cells #[.int .i64 i, .int .i64 j, .int .i64 k, .int .i64 l] 33) (C := .cells #[.int .i64 0, .int .i64 0, .int .i64 0, .int .i64 0, .int .i64 0, .int .i64 0, .int .i64 0, .int .i64 0] 69))
  have Y1 : Hid (Below w.heap.size w w1) := below_from (by go_grown) b1 (by simp; omega)
  clear b1 H
  go_upto_region 2 with fail
  have x3 := at_alloc (o := .cells #[.int .i64 0, .int .i64 0, .int .i64 0, .int .i64 0] 33) x2
  have Y2 : Hid (Below w.heap.size w (w1.alloc (.cells #[.int .i64 0, .int .i64 0, .int .i64 0, .int .i64 0] 33))) := Y1.out.alloc Y1.out.size _
  clear x2 Y1
  generalize w1.alloc (.cells #[.int .i64 0, .int .i64 0, .int .i64 0, .int .i64 0] 33) = W at *
  obtain ⟨k0, k1, k2, k3, k4, k5, k6, k7, ⟨kf0, kf1, kf2, kf3, kf4, kf5, kf6, kf7⟩, ks⟩ := cells8 x3
  go_wp2_with fail
  have r := at_set8a (v0 := .int .i64 0) (v1 := .int .i64 0) (v2 := .int .i64 0) (v3 := .int .i64 0) (v4 := .int .i64 0) (v5 := .int .i64 0) (v6 := .int .i64 0) (v7 := .int .i64 0) x3
  obtain ⟨c0, c1, c2, c3, c4, c5, c6, c7, -⟩ := cells8 r
  refine bodyPost_ret (by simp [results, Try.results38, go_sem, c0, c1, c2, c3, c4, c5, c6, c7]; rfl) rfl ?_
  exact ⟨rfl, (((((((Y2.out.setCell (by simp; omega) _).setCell (by simp; omega) _).setCell (by simp; omega) _).setCell (by simp; omega) _).setCell (by simp; omega) _).setCell (by simp; omega) _).setCell (by simp; omega) _).setCell (by simp; omega) _⟩
set_option maxHeartbeats 4000000 in
theorem taken_sum (a b c d e f g h i j k l t0 t1 t2 t3 : Int) (bt : Bool) (w : World)
    (H : Hid (∀ w, Calls Try.prog 48 #[.agg #[.int .i64 e, .int .i64 f, .int .i64 g, .int .i64 h], .agg #[.int .i64 i, .int .i64 j, .int .i64 k, .int .i64 l]] w fun r w' => r = .returned (.tuple #[.agg #[.int .i64 t0, .int .i64 t1, .int .i64 t2, .int .i64 t3], .int .i64 0]) ∧ Below w.heap.size w w'))
    (HF : Hid (∀ w, Calls Try.prog 49 #[.agg #[.int .i64 t0, .int .i64 t1, .int .i64 t2, .int .i64 t3], .agg #[.int .i64 a, .int .i64 b, .int .i64 c, .int .i64 d]] w fun r w' => r = .returned (.bool bt) ∧ Below w.heap.size w w')) :
    Calls Try.prog 38 #[.agg #[.int .i64 a, .int .i64 b, .int .i64 c, .int .i64 d, .int .i64 e, .int .i64 f, .int .i64 g, .int .i64 h], .agg #[.int .i64 i, .int .i64 j, .int .i64 k, .int .i64 l]] w fun r w' => r = (if bt then ansA ⟨a, b, c, d⟩ ⟨t0, t1, t2, t3⟩ 0 else ansA V.nil V.nil 9) ∧ Below w.heap.size w w' := by
  go_enter Try.func38, Try.ntmps38
  go_wp2_with (go_at_call 48; refine (H.out _).mono ?_)
  rintro _ w1 ⟨rfl, b1⟩
  have x2 := at_below b1 (Nat.le_refl _) (new2 (w := w) (A := .cells #[.int .i64 a, .int .i64 b, .int .i64 c, .int .i64 d, .int .i64 e, .int .i64 f, .int .i64 g, .int .i64 h] 69) (B := .cells #[.int .i64 i, .int .i64 j, .int .i64 k, .int .i64 l] 33) (C := .cells #[.int .i64 0, .int .i64 0, .int .i64 0, .int .i64 0, .int .i64 0, .int .i64 0, .int .i64 0, .int .i64 0] 69))
  have x1 := at_below b1 (Nat.le_refl _) (at_alloc (o := .cells #[.int .i64 0, .int .i64 0, .int .i64 0, .int .i64 0, .int .i64 0, .int .i64 0, .int .i64 0, .int .i64 0] 69) (at_alloc (o := .cells #[.int .i64 i, .int .i64 j, .int .i64 k, .int .i64 l] 33) (new0 (w := w) (o := .cells #[.int .i64 a, .int .i64 b, .int .i64 c, .int .i64 d, .int .i64 e, .int .i64 f, .int .i64 g, .int .i64 h] 69))))
  have Y1 : Hid (Below w.heap.size w w1) := below_from (by go_grown) b1 (by simp; omega)
  have hs1 : Hid (w.heap.size + 1 + 1 < w1.heap.size) := (Array.getElem?_eq_some_iff.1 x2).1
  clear b1 H
  go_upto_region 2 with fail
  have z2 := at_alloc (o := .cells #[.int .i64 t0, .int .i64 t1, .int .i64 t2, .int .i64 t3] 33) x2
  have z1 := at_alloc (o := .cells #[.int .i64 t0, .int .i64 t1, .int .i64 t2, .int .i64 t3] 33) x1
  have z3 := new0 (w := w1) (o := .cells #[.int .i64 t0, .int .i64 t1, .int .i64 t2, .int .i64 t3] 33)
  have Y2 : Hid (Below w.heap.size w (w1.alloc (.cells #[.int .i64 t0, .int .i64 t1, .int .i64 t2, .int .i64 t3] 33))) := Y1.out.alloc Y1.out.size _
  clear x2 x1 Y1
  generalize w1.alloc (.cells #[.int .i64 t0, .int .i64 t1, .int .i64 t2, .int .i64 t3] 33) = W at *
  generalize w1.heap.size = q at *
  obtain ⟨k0, k1, k2, k3, k4, k5, k6, k7, -, ks⟩ := cells8 z1
  obtain ⟨r0, r1, r2, r3, rf0, rf1, rf2, rf3, rs, rn⟩ := cells4 z3
  go_wp2_with (go_at_call 49; refine (HF.out _).mono ?_)
  rintro _ w2 ⟨rfl, b2⟩
  have u1 := at_below b2 (Nat.le_refl _) z1
  have u2 := at_below b2 (Nat.le_refl _) z2
  have u3 := at_below b2 (Nat.le_refl _) z3
  have Y3 : Hid (Below w.heap.size w w2) := below_from Y2.out b2 Y2.out.size
  clear k0 k1 k2 k3 k4 k5 k6 k7 ks r0 r1 r2 r3 rf0 rf1 rf2 rf3 rs rn z1 z2 z3 b2 Y2 HF
  obtain ⟨m0, m1, m2, m3, m4, m5, m6, m7, ⟨mf0, mf1, mf2, mf3, mf4, mf5, mf6, mf7⟩, ms⟩ := cells8 u2
  cases bt
  · go_wp2_with fail
    have r := at_set8a (v0 := .int .i64 0) (v1 := .int .i64 0) (v2 := .int .i64 0) (v3 := .int .i64 0) (v4 := .int .i64 0) (v5 := .int .i64 0) (v6 := .int .i64 0) (v7 := .int .i64 0) u2
    obtain ⟨c0, c1, c2, c3, c4, c5, c6, c7, -⟩ := cells8 r
    refine bodyPost_ret (by simp [results, Try.results38, go_sem, c0, c1, c2, c3, c4, c5, c6, c7]; rfl) rfl ?_
    exact ⟨rfl, (((((((Y3.out.setCell (by simp; omega) _).setCell (by simp; omega) _).setCell (by simp; omega) _).setCell (by simp; omega) _).setCell (by simp; omega) _).setCell (by simp; omega) _).setCell (by simp; omega) _).setCell (by simp; omega) _⟩
  · obtain ⟨k0, k1, k2, k3, k4, k5, k6, k7, ⟨kf0, kf1, kf2, kf3, kf4, kf5, kf6, kf7⟩, ks⟩ := cells8 u1
    obtain ⟨r0, r1, r2, r3, rf0, rf1, rf2, rf3, rs, rn⟩ := cells4 u3
    go_upto_region 5 with fail
    have hne : w.heap.size + 1 + 1 ≠ w.heap.size := by omega
    have v1 := at_set8b (v4 := .int .i64 t0) (v5 := .int .i64 t1) (v6 := .int .i64 t2) (v7 := .int .i64 t3) u1
    have v2 := (set4_other (W := w2) (g := w.heap.size) (k := w.heap.size + 1 + 1) (i0 := 4) (i1 := 5) (i2 := 6) (i3 := 7) (v0 := .int .i64 t0) (v1 := .int .i64 t1) (v2 := .int .i64 t2) (v3 := .int .i64 t3) hne).trans u2
    have Y4 : Hid (Below w.heap.size w ((((w2.setCell ⟨w.heap.size, 4, none⟩ (.int .i64 t0)).setCell ⟨w.heap.size, 5, none⟩ (.int .i64 t1)).setCell ⟨w.heap.size, 6, none⟩ (.int .i64 t2)).setCell ⟨w.heap.size, 7, none⟩ (.int .i64 t3))) := (((Y3.out.setCell (by simp) _).setCell (by simp) _).setCell (by simp) _).setCell (by simp) _
    clear k0 k1 k2 k3 k4 k5 k6 k7 kf0 kf1 kf2 kf3 kf4 kf5 kf6 kf7 ks r0 r1 r2 r3 rf0 rf1 rf2 rf3 rs rn m0 m1 m2 m3 m4 m5 m6 m7 mf0 mf1 mf2 mf3 mf4 mf5 mf6 mf7 ms u1 u2 u3 Y3
    generalize (((w2.setCell ⟨w.heap.size, 4, none⟩ (.int .i64 t0)).setCell ⟨w.heap.size, 5, none⟩ (.int .i64 t1)).setCell ⟨w.heap.size, 6, none⟩ (.int .i64 t2)).setCell ⟨w.heap.size, 7, none⟩ (.int .i64 t3) = U at *
    obtain ⟨k0, k1, k2, k3, k4, k5, k6, k7, -, ks⟩ := cells8 v1
    obtain ⟨m0, m1, m2, m3, m4, m5, m6, m7, ⟨mf0, mf1, mf2, mf3, mf4, mf5, mf6, mf7⟩, ms⟩ := cells8 v2
    go_wp2_with fail
    have r := at_set8a (v0 := .int .i64 a) (v1 := .int .i64 b) (v2 := .int .i64 c) (v3 := .int .i64 d) (v4 := .int .i64 t0) (v5 := .int .i64 t1) (v6 := .int .i64 t2) (v7 := .int .i64 t3) v2
    obtain ⟨c0, c1, c2, c3, c4, c5, c6, c7, -⟩ := cells8 r
    refine bodyPost_ret (by simp [results, Try.results38, go_sem, c0, c1, c2, c3, c4, c5, c6, c7]; rfl) rfl ?_
    exact ⟨rfl, (((((((Y4.out.setCell (by simp; omega) _).setCell (by simp; omega) _).setCell (by simp; omega) _).setCell (by simp; omega) _).setCell (by simp; omega) _).setCell (by simp; omega) _).setCell (by simp; omega) _).setCell (by simp; omega) _⟩
set_option maxHeartbeats 2000000 in
theorem given_err (a b c d e f g h i j k l : Int) (w : World)
    (H : Hid (∀ w, Calls Try.prog 50 #[.agg #[.int .i64 e, .int .i64 f, .int .i64 g, .int .i64 h], .agg #[.int .i64 i, .int .i64 j, .int .i64 k, .int .i64 l]] w fun r w' => r = .returned (.tuple #[.agg #[.int .i64 0, .int .i64 0, .int .i64 0, .int .i64 0], .int .i64 2]) ∧ Below w.heap.size w w')) :
    Calls Try.prog 39 #[.agg #[.int .i64 a, .int .i64 b, .int .i64 c, .int .i64 d, .int .i64 e, .int .i64 f, .int .i64 g, .int .i64 h], .agg #[.int .i64 i, .int .i64 j, .int .i64 k, .int .i64 l]] w fun r w' => r = ansA V.nil V.nil 2 ∧ Below w.heap.size w w' := by
  go_enter Try.func39, Try.ntmps39
  go_wp2_with (go_at_call 50; refine (H.out _).mono ?_)
  rintro _ w1 ⟨rfl, b1⟩
  have x2 := at_below b1 (Nat.le_refl _) (new2 (w := w) (A := .cells #[.int .i64 a, .int .i64 b, .int .i64 c, .int .i64 d, .int .i64 e, .int .i64 f, .int .i64 g, .int .i64 h] 69) (B := .cells #[.int .i64 i, .int .i64 j, .int .i64 k, .int .i64 l] 33) (C := .cells #[.int .i64 0, .int .i64 0, .int .i64 0, .int .i64 0, .int .i64 0, .int .i64 0, .int .i64 0, .int .i64 0] 69))
  have Y1 : Hid (Below w.heap.size w w1) := below_from (by go_grown) b1 (by simp; omega)
  clear b1 H
  go_upto_region 2 with fail
  have x3 := at_alloc (o := .cells #[.int .i64 0, .int .i64 0, .int .i64 0, .int .i64 0] 33) x2
  have Y2 : Hid (Below w.heap.size w (w1.alloc (.cells #[.int .i64 0, .int .i64 0, .int .i64 0, .int .i64 0] 33))) := Y1.out.alloc Y1.out.size _
  clear x2 Y1
  generalize w1.alloc (.cells #[.int .i64 0, .int .i64 0, .int .i64 0, .int .i64 0] 33) = W at *
  obtain ⟨k0, k1, k2, k3, k4, k5, k6, k7, ⟨kf0, kf1, kf2, kf3, kf4, kf5, kf6, kf7⟩, ks⟩ := cells8 x3
  go_wp2_with fail
  have r := at_set8a (v0 := .int .i64 0) (v1 := .int .i64 0) (v2 := .int .i64 0) (v3 := .int .i64 0) (v4 := .int .i64 0) (v5 := .int .i64 0) (v6 := .int .i64 0) (v7 := .int .i64 0) x3
  obtain ⟨c0, c1, c2, c3, c4, c5, c6, c7, -⟩ := cells8 r
  refine bodyPost_ret (by simp [results, Try.results39, go_sem, c0, c1, c2, c3, c4, c5, c6, c7]; rfl) rfl ?_
  exact ⟨rfl, (((((((Y2.out.setCell (by simp; omega) _).setCell (by simp; omega) _).setCell (by simp; omega) _).setCell (by simp; omega) _).setCell (by simp; omega) _).setCell (by simp; omega) _).setCell (by simp; omega) _).setCell (by simp; omega) _⟩
set_option maxHeartbeats 4000000 in
theorem given_ok (a b c d e f g h i j k l t0 t1 t2 t3 : Int) (w : World)
    (H : Hid (∀ w, Calls Try.prog 50 #[.agg #[.int .i64 e, .int .i64 f, .int .i64 g, .int .i64 h], .agg #[.int .i64 i, .int .i64 j, .int .i64 k, .int .i64 l]] w fun r w' => r = .returned (.tuple #[.agg #[.int .i64 t0, .int .i64 t1, .int .i64 t2, .int .i64 t3], .int .i64 0]) ∧ Below w.heap.size w w')) :
    Calls Try.prog 39 #[.agg #[.int .i64 a, .int .i64 b, .int .i64 c, .int .i64 d, .int .i64 e, .int .i64 f, .int .i64 g, .int .i64 h], .agg #[.int .i64 i, .int .i64 j, .int .i64 k, .int .i64 l]] w fun r w' => r = ansA ⟨a, b, c, d⟩ ⟨t0, t1, t2, t3⟩ 0 ∧ Below w.heap.size w w' := by
  go_enter Try.func39, Try.ntmps39
  go_wp2_with (go_at_call 50; refine (H.out _).mono ?_)
  rintro _ w1 ⟨rfl, b1⟩
  have x2 := at_below b1 (Nat.le_refl _) (new2 (w := w) (A := .cells #[.int .i64 a, .int .i64 b, .int .i64 c, .int .i64 d, .int .i64 e, .int .i64 f, .int .i64 g, .int .i64 h] 69) (B := .cells #[.int .i64 i, .int .i64 j, .int .i64 k, .int .i64 l] 33) (C := .cells #[.int .i64 0, .int .i64 0, .int .i64 0, .int .i64 0, .int .i64 0, .int .i64 0, .int .i64 0, .int .i64 0] 69))
  have x1 := at_below b1 (Nat.le_refl _) (at_alloc (o := .cells #[.int .i64 0, .int .i64 0, .int .i64 0, .int .i64 0, .int .i64 0, .int .i64 0, .int .i64 0, .int .i64 0] 69) (at_alloc (o := .cells #[.int .i64 i, .int .i64 j, .int .i64 k, .int .i64 l] 33) (new0 (w := w) (o := .cells #[.int .i64 a, .int .i64 b, .int .i64 c, .int .i64 d, .int .i64 e, .int .i64 f, .int .i64 g, .int .i64 h] 69))))
  have Y1 : Hid (Below w.heap.size w w1) := below_from (by go_grown) b1 (by simp; omega)
  have hs1 : Hid (w.heap.size + 1 + 1 < w1.heap.size) := (Array.getElem?_eq_some_iff.1 x2).1
  clear b1 H
  go_upto_region 2 with fail
  have u2 := at_alloc (o := .cells #[.int .i64 t0, .int .i64 t1, .int .i64 t2, .int .i64 t3] 33) x2
  have u1 := at_alloc (o := .cells #[.int .i64 t0, .int .i64 t1, .int .i64 t2, .int .i64 t3] 33) x1
  have u3 := new0 (w := w1) (o := .cells #[.int .i64 t0, .int .i64 t1, .int .i64 t2, .int .i64 t3] 33)
  have Y3 : Hid (Below w.heap.size w (w1.alloc (.cells #[.int .i64 t0, .int .i64 t1, .int .i64 t2, .int .i64 t3] 33))) := Y1.out.alloc Y1.out.size _
  clear x2 x1 Y1
  generalize w1.alloc (.cells #[.int .i64 t0, .int .i64 t1, .int .i64 t2, .int .i64 t3] 33) = w2 at *
  generalize w1.heap.size = q at *
  obtain ⟨m0, m1, m2, m3, m4, m5, m6, m7, ⟨mf0, mf1, mf2, mf3, mf4, mf5, mf6, mf7⟩, ms⟩ := cells8 u2
  obtain ⟨k0, k1, k2, k3, k4, k5, k6, k7, ⟨kf0, kf1, kf2, kf3, kf4, kf5, kf6, kf7⟩, ks⟩ := cells8 u1
  obtain ⟨r0, r1, r2, r3, rf0, rf1, rf2, rf3, rs, rn⟩ := cells4 u3
  go_upto_region 5 with fail
  have hne : w.heap.size + 1 + 1 ≠ w.heap.size := by omega
  have v1 := at_set8b (v4 := .int .i64 t0) (v5 := .int .i64 t1) (v6 := .int .i64 t2) (v7 := .int .i64 t3) u1
  have v2 := (set4_other (W := w2) (g := w.heap.size) (k := w.heap.size + 1 + 1) (i0 := 4) (i1 := 5) (i2 := 6) (i3 := 7) (v0 := .int .i64 t0) (v1 := .int .i64 t1) (v2 := .int .i64 t2) (v3 := .int .i64 t3) hne).trans u2
  have Y4 : Hid (Below w.heap.size w ((((w2.setCell ⟨w.heap.size, 4, none⟩ (.int .i64 t0)).setCell ⟨w.heap.size, 5, none⟩ (.int .i64 t1)).setCell ⟨w.heap.size, 6, none⟩ (.int .i64 t2)).setCell ⟨w.heap.size, 7, none⟩ (.int .i64 t3))) := (((Y3.out.setCell (by simp) _).setCell (by simp) _).setCell (by simp) _).setCell (by simp) _
  clear k0 k1 k2 k3 k4 k5 k6 k7 kf0 kf1 kf2 kf3 kf4 kf5 kf6 kf7 ks r0 r1 r2 r3 rf0 rf1 rf2 rf3 rs rn m0 m1 m2 m3 m4 m5 m6 m7 mf0 mf1 mf2 mf3 mf4 mf5 mf6 mf7 ms u1 u2 u3 Y3
  generalize (((w2.setCell ⟨w.heap.size, 4, none⟩ (.int .i64 t0)).setCell ⟨w.heap.size, 5, none⟩ (.int .i64 t1)).setCell ⟨w.heap.size, 6, none⟩ (.int .i64 t2)).setCell ⟨w.heap.size, 7, none⟩ (.int .i64 t3) = U at *
  obtain ⟨k0, k1, k2, k3, k4, k5, k6, k7, -, ks⟩ := cells8 v1
  obtain ⟨m0, m1, m2, m3, m4, m5, m6, m7, ⟨mf0, mf1, mf2, mf3, mf4, mf5, mf6, mf7⟩, ms⟩ := cells8 v2
  go_wp2_with fail
  have r := at_set8a (v0 := .int .i64 a) (v1 := .int .i64 b) (v2 := .int .i64 c) (v3 := .int .i64 d) (v4 := .int .i64 t0) (v5 := .int .i64 t1) (v6 := .int .i64 t2) (v7 := .int .i64 t3) v2
  obtain ⟨c0, c1, c2, c3, c4, c5, c6, c7, -⟩ := cells8 r
  refine bodyPost_ret (by simp [results, Try.results39, go_sem, c0, c1, c2, c3, c4, c5, c6, c7]; rfl) rfl ?_
  exact ⟨rfl, (((((((Y4.out.setCell (by simp; omega) _).setCell (by simp; omega) _).setCell (by simp; omega) _).setCell (by simp; omega) _).setCell (by simp; omega) _).setCell (by simp; omega) _).setCell (by simp; omega) _).setCell (by simp; omega) _⟩
/-- what a take or a gift answers -/
def ansF (o : Option V) (v : V) (k : Int) : Ending := match o with
  | some x => ansA v x 0
  | none => ansA V.nil V.nil k
def vec (m : V) : Value := .agg #[.int .i64 m.a, .int .i64 m.b, .int .i64 m.c, .int .i64 m.d]
theorem taken_any (v u m : V) (hv : v.ok = true) (hu : u.ok = true) (hm : m.ok = true) (w : World) : Calls Try.prog 38 #[.agg (c8 v u), vec m] w fun r w' => r = ansF (takeF v u m) v 9 ∧ Below w.heap.size w w' := by
  have ha := fun w => add_any u.a u.b u.c u.d m.a m.b m.c m.d w
  unfold addR at ha
  rw [if_pos (by rw [show (V.mk u.a u.b u.c u.d) = u from rfl, show (V.mk m.a m.b m.c m.d) = m from rfl, hu, hm]; rfl)] at ha
  rw [show (V.mk u.a u.b u.c u.d) = u from rfl, show (V.mk m.a m.b m.c m.d) = m from rfl] at ha
  unfold takeF
  by_cases ho : (u.add m).ok = true
  · rw [if_pos ho] at ha
    have := taken_sum v.a v.b v.c v.d u.a u.b u.c u.d m.a m.b m.c m.d _ _ _ _ ((u.add m).le v) w ha (fun w => fits_any _ _ _ _ _ _ _ _ w)
    refine this.mono ?_
    rintro r w' ⟨rfl, b⟩
    refine ⟨?_, b⟩
    by_cases hl : (u.add m).le v = true
    · rw [if_pos hl, if_pos hl]; rfl
    · rw [if_neg hl, if_neg hl]; rfl
  · rw [if_neg ho] at ha
    have hl : ¬ (u.add m).le v = true := fun hl => ho (by
      have h1 := V.ok_iff.1 hv
      have h2 := V.ok_iff.1 hu
      have h3 := V.ok_iff.1 hm
      have h4 := V.le_iff.1 hl
      refine V.ok_iff.2 ?_
      unfold V.add at *
      simp only at *
      omega)
    rw [if_neg hl]
    exact taken_err v.a v.b v.c v.d u.a u.b u.c u.d m.a m.b m.c m.d w ha
theorem given_any (v u m : V) (hu : u.ok = true) (hm : m.ok = true) (w : World) : Calls Try.prog 39 #[.agg (c8 v u), vec m] w fun r w' => r = ansF (giveF v u m) v 2 ∧ Below w.heap.size w w' := by
  have h2 := okV hu
  have h3 := okV hm
  have ha := fun w => sub_at u.a u.b u.c u.d m.a m.b m.c m.d _ _ _ _ w (by unfold allOk; simp only [List.all_cons, List.all_nil, Bool.and_true]; rw [show (V.mk u.a u.b u.c u.d) = u from rfl, show (V.mk m.a m.b m.c m.d) = m from rfl, hu, hm]; rfl) (wrap_ok (by omega) (by omega)) (wrap_ok (by omega) (by omega)) (wrap_ok (by omega) (by omega)) (wrap_ok (by omega) (by omega))
  unfold giveF
  by_cases hl : m.le u = true
  · rw [if_pos (show ft m.a m.b m.c m.d u.a u.b u.c u.d = true from hl)] at ha
    rw [if_pos hl]
    exact given_ok v.a v.b v.c v.d u.a u.b u.c u.d m.a m.b m.c m.d _ _ _ _ w ha
  · rw [if_neg (show ¬ ft m.a m.b m.c m.d u.a u.b u.c u.d = true from hl)] at ha
    rw [if_neg hl]
    exact given_err v.a v.b v.c v.d u.a u.b u.c u.d m.a m.b m.c m.d w ha
end Go.Proofs.Ytehgcaaeifnjeaa
