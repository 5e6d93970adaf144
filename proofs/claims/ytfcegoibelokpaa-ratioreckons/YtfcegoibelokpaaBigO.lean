/-
  The contracts of the reference's Add, Sub and Mul, out of those of its parts.
-/
import Derived.Test.YtfcegoibelokpaaBigL
import Derived.Test.YtfcegoibelokpaaBigF
import Derived.Test.YtfcegoibelokpaaLawM
import Derived.Test.YtfcegoibelokpaaWalkM
namespace Go.Proofs.Ytfcegoibelokpaa
open Go.RowKit Big

set_option maxHeartbeats 4000000 in
set_option maxRecDepth 100000 in
theorem rmul_at (a b c d : Nat) (A1 B1 A3 B3 : Array Value) (x1 x2 x3 : Int) (w : World) (hb0 : ((b : Int) == 0) = false) (hd0 : ((d : Int) == 0) = false)
    (O1 : Hid (∀ w, Calls Try.prog 25 #[.int .u64 a] w fun r w' => r = .returned (.agg A1) ∧ Below w.heap.size w w'))
    (T1 : Hid (∀ w, Calls Try.prog 26 #[.agg A1, .int .u64 c] w fun r w' => r = .returned (.agg B1) ∧ Below w.heap.size w w'))
    (O3 : Hid (∀ w, Calls Try.prog 25 #[.int .u64 b] w fun r w' => r = .returned (.agg A3) ∧ Below w.heap.size w w'))
    (T3 : Hid (∀ w, Calls Try.prog 26 #[.agg A3, .int .u64 d] w fun r w' => r = .returned (.agg B3) ∧ Below w.heap.size w w'))
    (L : Hid (∀ w, Calls Try.prog 30 #[.agg B1, .agg B3] w fun r w' => r = .returned (.tuple #[.agg #[.int .u64 x1, .int .u64 x2], .int .i64 x3]) ∧ Below w.heap.size w w')) :
    Calls Try.prog 20 #[.agg #[.int .u64 a, .int .u64 b], .agg #[.int .u64 c, .int .u64 d]] w fun r w' => r = .returned (.tuple #[.agg #[.int .u64 x1, .int .u64 x2], .int .i64 x3]) ∧ Below w.heap.size w w' := by
  go_enter Try.func20, Try.ntmps20
  go_upto_region 3 with fail
  have z0 : (((w.alloc (.cells #[.int .u64 a, .int .u64 b] 29)).alloc (.cells #[.int .u64 c, .int .u64 d] 29)).alloc (.cells #[.int .u64 0, .int .u64 0] 29)).heap[w.heap.size]? = some (.cells #[.int .u64 a, .int .u64 b] 29) := at_alloc first0
  have z1 : (((w.alloc (.cells #[.int .u64 a, .int .u64 b] 29)).alloc (.cells #[.int .u64 c, .int .u64 d] 29)).alloc (.cells #[.int .u64 0, .int .u64 0] 29)).heap[w.heap.size + 1]? = some (.cells #[.int .u64 c, .int .u64 d] 29) := at_alloc first1
  have z2 : (((w.alloc (.cells #[.int .u64 a, .int .u64 b] 29)).alloc (.cells #[.int .u64 c, .int .u64 d] 29)).alloc (.cells #[.int .u64 0, .int .u64 0] 29)).heap[w.heap.size + 1 + 1]? = some (.cells #[.int .u64 0, .int .u64 0] 29) := first2
  have y0 : Hid (Below w.heap.size w (((w.alloc (.cells #[.int .u64 a, .int .u64 b] 29)).alloc (.cells #[.int .u64 c, .int .u64 d] 29)).alloc (.cells #[.int .u64 0, .int .u64 0] 29))) := (((Below.refl _ w).alloc (Nat.le_refl _) _).alloc (by simp) _).alloc (by simp; omega) _
  generalize ((w.alloc (.cells #[.int .u64 a, .int .u64 b] 29)).alloc (.cells #[.int .u64 c, .int .u64 d] 29)).alloc (.cells #[.int .u64 0, .int .u64 0] 29) = w0 at *
  have k0 := Lib.cell_of_heap z0 0
  have k1 := Lib.cell_of_heap z0 1
  have k2 := Lib.cell_of_heap z1 0
  have k3 := Lib.cell_of_heap z1 1
  simp only [List.getElem?_toArray, List.getElem?_cons_zero, List.getElem?_cons_succ] at k0 k1 k2 k3
  go_region_held3 (fun w' : World => w'.cell? ⟨w.heap.size, 0, none⟩ = some (.int .u64 a) ∧ w'.cell? ⟨w.heap.size, 1, none⟩ = some (.int .u64 b) ∧ w'.cell? ⟨w.heap.size + 1, 0, none⟩ = some (.int .u64 c) ∧ w'.cell? ⟨w.heap.size + 1, 1, none⟩ = some (.int .u64 d)) (repeat' (first | (with_reducible assumption) | (with_reducible refine keep4c (by assumption) ?_) | (with_reducible refine keep4t lt2 lt2 lt1 lt1 ?_) | go_keep))
    (first
      | (go_at_call_of 25 (Value.int .u64 (a : Int)); refine (O1.out _).mono ?_; rintro e v0 ⟨rfl, b0⟩; have yy0 : Hid (Below w.heap.size w v0) := below_from (by first | exact y0.out | exact below_drewN y0.out _ | exact y0.out.drew) b0 y0.out.size; have rr0 := keep2 b0 (g := w.heap.size + 1 + 1) (x := Value.int .u64 0) (y := Value.int .u64 0) (ty := 29) (by first | exact z2 | exact at_drew z2 | exact at_drewN z2); obtain ⟨r0, t0a, t0b, t0c, t0d, -, -⟩ := rr0)
      | (go_at_call_of 26 (Value.agg A1); refine (T1.out _).mono ?_; rintro e v1 ⟨rfl, b1⟩; have yy1 : Hid (Below w.heap.size w v1) := below_from (by first | exact yy0.out | exact below_drewN yy0.out _ | exact yy0.out.drew) b1 yy0.out.size; have rr1 := keep2 b1 (g := w.heap.size + 1 + 1) (x := Value.int .u64 0) (y := Value.int .u64 0) (ty := 29) (by first | exact r0 | exact at_drew r0 | exact at_drewN r0); obtain ⟨r1, t1a, t1b, t1c, t1d, -, -⟩ := rr1)
      | (go_at_call_of 25 (Value.int .u64 (b : Int)); refine (O3.out _).mono ?_; rintro e v2 ⟨rfl, b2⟩; have yy2 : Hid (Below w.heap.size w v2) := below_from (by first | exact yy1.out | exact below_drewN yy1.out _ | exact yy1.out.drew) b2 yy1.out.size; have rr2 := keep2 b2 (g := w.heap.size + 1 + 1) (x := Value.int .u64 0) (y := Value.int .u64 0) (ty := 29) (by first | exact r1 | exact at_drew r1 | exact at_drewN r1); obtain ⟨r2, t2a, t2b, t2c, t2d, -, -⟩ := rr2)
      | (go_at_call_of 26 (Value.agg A3); refine (T3.out _).mono ?_; rintro e v3 ⟨rfl, b3⟩; have yy3 : Hid (Below w.heap.size w v3) := below_from (by first | exact yy2.out | exact below_drewN yy2.out _ | exact yy2.out.drew) b3 yy2.out.size; have rr3 := keep2 b3 (g := w.heap.size + 1 + 1) (x := Value.int .u64 0) (y := Value.int .u64 0) (ty := 29) (by first | exact r2 | exact at_drew r2 | exact at_drewN r2); obtain ⟨r3, t3a, t3b, t3c, t3d, -, -⟩ := rr3)
      | (go_at_call 30; refine (L.out _).mono ?_; rintro e v4 ⟨rfl, b4⟩; have yy4 : Hid (Below w.heap.size w v4) := below_from (by first | exact yy3.out | exact below_drewN yy3.out _ | exact yy3.out.drew) b4 yy3.out.size; have rr4 := keep2 b4 (g := w.heap.size + 1 + 1) (x := Value.int .u64 0) (y := Value.int .u64 0) (ty := 29) (by first | exact r3 | exact at_drew r3 | exact at_drewN r3); obtain ⟨r4, t4a, t4b, t4c, t4d, -, -⟩ := rr4))
  go_wp2_with fail
  have rr := at_set2 (v := .int .u64 x1) (v' := .int .u64 x2) r4
  have c0 := Lib.cell_of_heap rr 0
  have c1' := Lib.cell_of_heap rr 1
  simp only [List.getElem?_toArray, List.getElem?_cons_zero, List.getElem?_cons_succ] at c0 c1'
  refine bodyPost_ret (by simp [results, Try.results20, go_sem, c0, c1']; rfl) rfl ?_
  exact ⟨rfl, (yy4.out.setCell le2 _).setCell le2 _⟩

set_option maxHeartbeats 4000000 in
set_option maxRecDepth 100000 in
theorem radd_at (a b c d : Nat) (A1 B1 A2 B2 A3 B3 S : Array Value) (x1 x2 x3 : Int) (w : World) (hb0 : ((b : Int) == 0) = false) (hd0 : ((d : Int) == 0) = false)
    (O1 : Hid (∀ w, Calls Try.prog 25 #[.int .u64 a] w fun r w' => r = .returned (.agg A1) ∧ Below w.heap.size w w'))
    (T1 : Hid (∀ w, Calls Try.prog 26 #[.agg A1, .int .u64 d] w fun r w' => r = .returned (.agg B1) ∧ Below w.heap.size w w'))
    (O2 : Hid (∀ w, Calls Try.prog 25 #[.int .u64 c] w fun r w' => r = .returned (.agg A2) ∧ Below w.heap.size w w'))
    (T2 : Hid (∀ w, Calls Try.prog 26 #[.agg A2, .int .u64 b] w fun r w' => r = .returned (.agg B2) ∧ Below w.heap.size w w'))
    (P : Hid (∀ w, Calls Try.prog 31 #[.agg B1, .agg B2] w fun r w' => r = .returned (.agg S) ∧ Below w.heap.size w w'))
    (O3 : Hid (∀ w, Calls Try.prog 25 #[.int .u64 b] w fun r w' => r = .returned (.agg A3) ∧ Below w.heap.size w w'))
    (T3 : Hid (∀ w, Calls Try.prog 26 #[.agg A3, .int .u64 d] w fun r w' => r = .returned (.agg B3) ∧ Below w.heap.size w w'))
    (L : Hid (∀ w, Calls Try.prog 30 #[.agg S, .agg B3] w fun r w' => r = .returned (.tuple #[.agg #[.int .u64 x1, .int .u64 x2], .int .i64 x3]) ∧ Below w.heap.size w w')) :
    Calls Try.prog 16 #[.agg #[.int .u64 a, .int .u64 b], .agg #[.int .u64 c, .int .u64 d]] w fun r w' => r = .returned (.tuple #[.agg #[.int .u64 x1, .int .u64 x2], .int .i64 x3]) ∧ Below w.heap.size w w' := by
  go_enter Try.func16, Try.ntmps16
  go_upto_region 3 with fail
  have z0 : (((w.alloc (.cells #[.int .u64 a, .int .u64 b] 29)).alloc (.cells #[.int .u64 c, .int .u64 d] 29)).alloc (.cells #[.int .u64 0, .int .u64 0] 29)).heap[w.heap.size]? = some (.cells #[.int .u64 a, .int .u64 b] 29) := at_alloc first0
  have z1 : (((w.alloc (.cells #[.int .u64 a, .int .u64 b] 29)).alloc (.cells #[.int .u64 c, .int .u64 d] 29)).alloc (.cells #[.int .u64 0, .int .u64 0] 29)).heap[w.heap.size + 1]? = some (.cells #[.int .u64 c, .int .u64 d] 29) := at_alloc first1
  have z2 : (((w.alloc (.cells #[.int .u64 a, .int .u64 b] 29)).alloc (.cells #[.int .u64 c, .int .u64 d] 29)).alloc (.cells #[.int .u64 0, .int .u64 0] 29)).heap[w.heap.size + 1 + 1]? = some (.cells #[.int .u64 0, .int .u64 0] 29) := first2
  have y0 : Hid (Below w.heap.size w (((w.alloc (.cells #[.int .u64 a, .int .u64 b] 29)).alloc (.cells #[.int .u64 c, .int .u64 d] 29)).alloc (.cells #[.int .u64 0, .int .u64 0] 29))) := (((Below.refl _ w).alloc (Nat.le_refl _) _).alloc (by simp) _).alloc (by simp; omega) _
  generalize ((w.alloc (.cells #[.int .u64 a, .int .u64 b] 29)).alloc (.cells #[.int .u64 c, .int .u64 d] 29)).alloc (.cells #[.int .u64 0, .int .u64 0] 29) = w0 at *
  have k0 := Lib.cell_of_heap z0 0
  have k1 := Lib.cell_of_heap z0 1
  have k2 := Lib.cell_of_heap z1 0
  have k3 := Lib.cell_of_heap z1 1
  simp only [List.getElem?_toArray, List.getElem?_cons_zero, List.getElem?_cons_succ] at k0 k1 k2 k3
  go_region_held3 (fun w' : World => w'.cell? ⟨w.heap.size, 0, none⟩ = some (.int .u64 a) ∧ w'.cell? ⟨w.heap.size, 1, none⟩ = some (.int .u64 b) ∧ w'.cell? ⟨w.heap.size + 1, 0, none⟩ = some (.int .u64 c) ∧ w'.cell? ⟨w.heap.size + 1, 1, none⟩ = some (.int .u64 d)) (repeat' (first | (with_reducible assumption) | (with_reducible refine keep4c (by assumption) ?_) | (with_reducible refine keep4t lt2 lt2 lt1 lt1 ?_) | go_keep))
    (first
      | (go_at_call_of 25 (Value.int .u64 (a : Int)); refine (O1.out _).mono ?_; rintro e v0 ⟨rfl, b0⟩; have yy0 : Hid (Below w.heap.size w v0) := below_from (by first | exact y0.out | exact below_drewN y0.out _ | exact y0.out.drew) b0 y0.out.size; have rr0 := keep2 b0 (g := w.heap.size + 1 + 1) (x := Value.int .u64 0) (y := Value.int .u64 0) (ty := 29) (by first | exact z2 | exact at_drew z2 | exact at_drewN z2); obtain ⟨r0, t0a, t0b, t0c, t0d, -, -⟩ := rr0)
      | (go_at_call_of 26 (Value.agg A1); refine (T1.out _).mono ?_; rintro e v1 ⟨rfl, b1⟩; have yy1 : Hid (Below w.heap.size w v1) := below_from (by first | exact yy0.out | exact below_drewN yy0.out _ | exact yy0.out.drew) b1 yy0.out.size; have rr1 := keep2 b1 (g := w.heap.size + 1 + 1) (x := Value.int .u64 0) (y := Value.int .u64 0) (ty := 29) (by first | exact r0 | exact at_drew r0 | exact at_drewN r0); obtain ⟨r1, t1a, t1b, t1c, t1d, -, -⟩ := rr1)
      | (go_at_call_of 25 (Value.int .u64 (c : Int)); refine (O2.out _).mono ?_; rintro e v2 ⟨rfl, b2⟩; have yy2 : Hid (Below w.heap.size w v2) := below_from (by first | exact yy1.out | exact below_drewN yy1.out _ | exact yy1.out.drew) b2 yy1.out.size; have rr2 := keep2 b2 (g := w.heap.size + 1 + 1) (x := Value.int .u64 0) (y := Value.int .u64 0) (ty := 29) (by first | exact r1 | exact at_drew r1 | exact at_drewN r1); obtain ⟨r2, t2a, t2b, t2c, t2d, -, -⟩ := rr2)
      | (go_at_call_of 26 (Value.agg A2); refine (T2.out _).mono ?_; rintro e v3 ⟨rfl, b3⟩; have yy3 : Hid (Below w.heap.size w v3) := below_from (by first | exact yy2.out | exact below_drewN yy2.out _ | exact yy2.out.drew) b3 yy2.out.size; have rr3 := keep2 b3 (g := w.heap.size + 1 + 1) (x := Value.int .u64 0) (y := Value.int .u64 0) (ty := 29) (by first | exact r2 | exact at_drew r2 | exact at_drewN r2); obtain ⟨r3, t3a, t3b, t3c, t3d, -, -⟩ := rr3)
      | (go_at_call 31; refine (P.out _).mono ?_; rintro e v4 ⟨rfl, b4⟩; have yy4 : Hid (Below w.heap.size w v4) := below_from (by first | exact yy3.out | exact below_drewN yy3.out _ | exact yy3.out.drew) b4 yy3.out.size; have rr4 := keep2 b4 (g := w.heap.size + 1 + 1) (x := Value.int .u64 0) (y := Value.int .u64 0) (ty := 29) (by first | exact r3 | exact at_drew r3 | exact at_drewN r3); obtain ⟨r4, t4a, t4b, t4c, t4d, -, -⟩ := rr4)
      | (go_at_call_of 25 (Value.int .u64 (b : Int)); refine (O3.out _).mono ?_; rintro e v5 ⟨rfl, b5⟩; have yy5 : Hid (Below w.heap.size w v5) := below_from (by first | exact yy4.out | exact below_drewN yy4.out _ | exact yy4.out.drew) b5 yy4.out.size; have rr5 := keep2 b5 (g := w.heap.size + 1 + 1) (x := Value.int .u64 0) (y := Value.int .u64 0) (ty := 29) (by first | exact r4 | exact at_drew r4 | exact at_drewN r4); obtain ⟨r5, t5a, t5b, t5c, t5d, -, -⟩ := rr5)
      | (go_at_call_of 26 (Value.agg A3); refine (T3.out _).mono ?_; rintro e v6 ⟨rfl, b6⟩; have yy6 : Hid (Below w.heap.size w v6) := below_from (by first | exact yy5.out | exact below_drewN yy5.out _ | exact yy5.out.drew) b6 yy5.out.size; have rr6 := keep2 b6 (g := w.heap.size + 1 + 1) (x := Value.int .u64 0) (y := Value.int .u64 0) (ty := 29) (by first | exact r5 | exact at_drew r5 | exact at_drewN r5); obtain ⟨r6, t6a, t6b, t6c, t6d, -, -⟩ := rr6)
      | (go_at_call 30; refine (L.out _).mono ?_; rintro e v7 ⟨rfl, b7⟩; have yy7 : Hid (Below w.heap.size w v7) := below_from (by first | exact yy6.out | exact below_drewN yy6.out _ | exact yy6.out.drew) b7 yy6.out.size; have rr7 := keep2 b7 (g := w.heap.size + 1 + 1) (x := Value.int .u64 0) (y := Value.int .u64 0) (ty := 29) (by first | exact r6 | exact at_drew r6 | exact at_drewN r6); obtain ⟨r7, t7a, t7b, t7c, t7d, -, -⟩ := rr7))
  go_wp2_with fail
  have rr := at_set2 (v := .int .u64 x1) (v' := .int .u64 x2) r7
  have c0 := Lib.cell_of_heap rr 0
  have c1' := Lib.cell_of_heap rr 1
  simp only [List.getElem?_toArray, List.getElem?_cons_zero, List.getElem?_cons_succ] at c0 c1'
  refine bodyPost_ret (by simp [results, Try.results16, go_sem, c0, c1']; rfl) rfl ?_
  exact ⟨rfl, (yy7.out.setCell le2 _).setCell le2 _⟩

end Go.Proofs.Ytfcegoibelokpaa
