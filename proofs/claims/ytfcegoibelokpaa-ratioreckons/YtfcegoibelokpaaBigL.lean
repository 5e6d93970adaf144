/-
  The contract of the reference's lowest.
-/
import Derived.Test.YtfcegoibelokpaaBigK
namespace Go.Proofs.Ytfcegoibelokpaa
open Go.RowKit Big

theorem at_setRow {w : World} {g g' : Nat} {c : Array Value} {o : Obj} (h : w.heap[g]? = some o) (hne : g ≠ g') : (w.setRow g' c).heap[g]? = some o := (setRow_other w g' g _ hne).trans h

theorem at_later {W w1 : World} {g : Nat} {o : Obj} (b : Below W.heap.size W w1) (h : W.heap[g]? = some o) : w1.heap[g]? = some o := (b.block g (Array.getElem?_eq_some_iff.1 h).1).trans h

set_option maxHeartbeats 4000000 in
set_option maxRecDepth 100000 in
theorem lowest_at (n d G x y z1 z2 : W) (p q : Int) (ok fine : Bool) (w : World)
    (HG : Hid (∀ w, Calls Try.prog 42 #[.agg (bigR n), .agg (bigR d)] w fun e w' => e = .returned (.agg (bigR G)) ∧ Below w.heap.size w w'))
    (HX : Hid (∀ w, Calls Try.prog 43 #[.agg (bigR n), .agg (bigR G)] w fun e w' => e = .returned (.tuple #[.agg (bigR x), .agg (bigR z1)]) ∧ Below w.heap.size w w'))
    (HY : Hid (∀ w, Calls Try.prog 43 #[.agg (bigR d), .agg (bigR G)] w fun e w' => e = .returned (.tuple #[.agg (bigR y), .agg (bigR z2)]) ∧ Below w.heap.size w w'))
    (HP : Hid (∀ w, Calls Try.prog 44 #[.agg (bigR x)] w fun e w' => e = .returned (.tuple #[.int .u64 p, .bool ok]) ∧ Below w.heap.size w w'))
    (HQ : Hid (∀ w, Calls Try.prog 44 #[.agg (bigR y)] w fun e w' => e = .returned (.tuple #[.int .u64 q, .bool fine]) ∧ Below w.heap.size w w')) :
    Calls Try.prog 30 #[.agg (bigR n), .agg (bigR d)] w fun e w' => e = .returned (if ok && fine then .tuple #[.agg #[.int .u64 p, .int .u64 q], .int .i64 0] else .tuple #[.agg #[.int .u64 0, .int .u64 0], .int .i64 7]) ∧ Below w.heap.size w w' := by
  have hz := zero48
  go_enter Try.func30, Try.ntmps30
  go_upto_region 1 with fail
  have r0 : Row (((w.alloc (.cells (bigR n) 48)).alloc (.cells (bigR d) 48)).alloc (.cells #[.int .u64 0, .int .u64 0] 29)) w.heap.size (bigR n) := ((row_new w _ _ rfl).alloc _).alloc _
  have r1 : Row (((w.alloc (.cells (bigR n) 48)).alloc (.cells (bigR d) 48)).alloc (.cells #[.int .u64 0, .int .u64 0] 29)) (w.heap.size + 1) (bigR d) := (row_new _ _ _ (by simp)).alloc _
  have r2 : (((w.alloc (.cells (bigR n) 48)).alloc (.cells (bigR d) 48)).alloc (.cells #[.int .u64 0, .int .u64 0] 29)).heap[w.heap.size + 1 + 1]? = some (.cells #[.int .u64 0, .int .u64 0] 29) := by
    have := new0 (w := ((w.alloc (.cells (bigR n) 48)).alloc (.cells (bigR d) 48))) (o := .cells #[.int .u64 0, .int .u64 0] 29)
    simpa using this
  have y0 : Hid (Below w.heap.size w (((w.alloc (.cells (bigR n) 48)).alloc (.cells (bigR d) 48)).alloc (.cells #[.int .u64 0, .int .u64 0] 29))) := (((Below.refl _ w).alloc (Nat.le_refl _) _).alloc (by simp) _).alloc (by simp; omega) _
  generalize ((w.alloc (.cells (bigR n) 48)).alloc (.cells (bigR d) 48)).alloc (.cells #[.int .u64 0, .int .u64 0] 29) = w0 at *
  go_upto_region 2 with (first | refine wpList_load_row rfl 48 _ rfl (w.heap.size) rfl 48 (bigR n) (0, 0) _ r0 Try.underlying48 rfl (size48 _) ?_ | refine wpList_load_row rfl 48 _ rfl (w.heap.size + 1) rfl 48 (bigR d) (0, 0) _ r1 Try.underlying48 rfl (size48 _) ?_ | (go_at_call 42; refine (HG.out _).mono ?_))
  rintro e w1 ⟨rfl, b1⟩
  have p0 := Row.later r0 b1 (Row.lt r0)
  have p1 := Row.later r1 b1 (Row.lt r1)
  have p2 := at_later b1 r2
  have y1 : Hid (Below w.heap.size w w1) := below_from y0.out b1 y0.out.size
  have s1 : Hid (w.heap.size + 1 + 1 < w1.heap.size) := (Array.getElem?_eq_some_iff.1 p2).1
  clear b1 r0 r1 r2 y0
  dsimp only
  iterate 4 go_step
  have n0 := p0.alloc (.cells (bigR 0) 48)
  have n1 := p1.alloc (.cells (bigR 0) 48)
  have n2 := at_alloc (o := .cells (bigR 0) 48) p2
  have n3 : Row (w1.alloc (.cells (bigR 0) 48)) w1.heap.size (bigR 0) := row_new w1 _ _ rfl
  refine wpList_store_row rfl 48 _ _ rfl w1.heap.size (bigR G) rfl rfl 48 (bigR 0) n3 (size48 _) (by rw [bigR_size, bigR_size]) (one48 _) ?_
  have m0 := row_other (c' := bigR G) (g' := w1.heap.size) n0 (by have := s1.out; omega)
  have m1 := row_other (c' := bigR G) (g' := w1.heap.size) n1 (by have := s1.out; omega)
  have m2 := at_setRow (c := bigR G) (g' := w1.heap.size) n2 (by have := s1.out; omega)
  have m3 := Row.setRow (c' := bigR G) n3
  have y2 : Hid (Below w.heap.size w ((w1.alloc (.cells (bigR 0) 48)).setRow w1.heap.size (bigR G))) := below_setRow (y1.out.alloc y1.out.size _) y1.out.size
  clear p0 p1 p2 n0 n1 n2 n3 y1
  generalize (w1.alloc (.cells (bigR 0) 48)).setRow w1.heap.size (bigR G) = w2 at *
  generalize w1.heap.size = g6 at *
  clear HG
  go_upto_region 2 with fail
  go_upto_region 3 with (first | refine wpList_load_row rfl 48 _ rfl (w.heap.size) rfl 48 (bigR n) (0, 0) _ m0 Try.underlying48 rfl (size48 _) ?_ | refine wpList_load_row rfl 48 _ rfl g6 rfl 48 (bigR G) (0, 0) _ m3 Try.underlying48 rfl (size48 _) ?_ | (go_at_call 43; refine (HX.out _).mono ?_))
  rintro e w3 ⟨rfl, b3⟩
  have p1 := Row.later m1 b3 (Row.lt m1)
  have p2 := at_later b3 m2
  have p3 := Row.later m3 b3 (Row.lt m3)
  have y3 : Hid (Below w.heap.size w w3) := below_from y2.out b3 y2.out.size
  have l1 := p1.lt
  have l3 := p3.lt
  have l2 : w.heap.size + 1 + 1 < w3.heap.size := (Array.getElem?_eq_some_iff.1 p2).1
  have L3 : Hid (w.heap.size + 1 < w3.heap.size ∧ g6 < w3.heap.size ∧ w.heap.size + 1 + 1 < w3.heap.size) := ⟨l1, l3, l2⟩
  clear b3 m0 m1 m2 m3 y2 l1 l2 l3 HX
  dsimp only
  iterate 16 go_step
  have n1 := (p1.alloc (.cells (bigR 0) 48)).alloc (.cells (bigR 0) 48)
  have n2 := at_alloc (o := .cells (bigR 0) 48) (at_alloc (o := .cells (bigR 0) 48) p2)
  have n3 := (p3.alloc (.cells (bigR 0) 48)).alloc (.cells (bigR 0) 48)
  have n5 : Row ((w3.alloc (.cells (bigR 0) 48)).alloc (.cells (bigR 0) 48)) w3.heap.size (bigR 0) := (row_new w3 _ _ rfl).alloc _
  have n6 : Row ((w3.alloc (.cells (bigR 0) 48)).alloc (.cells (bigR 0) 48)) (w3.heap.size + 1) (bigR 0) := row_new _ _ _ (by simp)
  have n6' := row_other (c' := bigR x) (g' := w3.heap.size) n6 (by omega)
  refine wpList_store_row rfl 48 _ _ rfl w3.heap.size (bigR x) rfl rfl 48 (bigR 0) n5 (size48 _) (by rw [bigR_size, bigR_size]) (one48 _) ?_
  refine wpList_store_row rfl 48 _ _ rfl (w3.heap.size + 1) (bigR z1) rfl rfl 48 (bigR 0) n6' (size48 _) (by rw [bigR_size, bigR_size]) (one48 _) ?_
  have m1 := row_other (c' := bigR z1) (g' := w3.heap.size + 1) (row_other (c' := bigR x) (g' := w3.heap.size) n1 (by have := L3.out; omega)) (by have := L3.out; omega)
  have m2 := at_setRow (c := bigR z1) (g' := w3.heap.size + 1) (at_setRow (c := bigR x) (g' := w3.heap.size) n2 (by have := L3.out; omega)) (by have := L3.out; omega)
  have m3 := row_other (c' := bigR z1) (g' := w3.heap.size + 1) (row_other (c' := bigR x) (g' := w3.heap.size) n3 (by have := L3.out; omega)) (by have := L3.out; omega)
  have m5 := row_other (c' := bigR z1) (g' := w3.heap.size + 1) (Row.setRow (c' := bigR x) n5) (by omega)
  have y4 : Hid (Below w.heap.size w ((((w3.alloc (.cells (bigR 0) 48)).alloc (.cells (bigR 0) 48)).setRow w3.heap.size (bigR x)).setRow (w3.heap.size + 1) (bigR z1))) := by
    have h := L3.out
    refine below_setRow (below_setRow ((y3.out.alloc y3.out.size _).alloc ?_ _) y3.out.size) ?_
    · simp; omega
    · omega
  clear p1 p2 p3 n1 n2 n3 n5 n6 n6' y3
  generalize (((w3.alloc (.cells (bigR 0) 48)).alloc (.cells (bigR 0) 48)).setRow w3.heap.size (bigR x)).setRow (w3.heap.size + 1) (bigR z1) = w4 at *
  generalize w3.heap.size = g7 at *
  go_upto_region 3 with fail
  go_upto_region 4 with (first | refine wpList_load_row rfl 48 _ rfl (w.heap.size + 1) rfl 48 (bigR d) (0, 0) _ m1 Try.underlying48 rfl (size48 _) ?_ | refine wpList_load_row rfl 48 _ rfl g6 rfl 48 (bigR G) (0, 0) _ m3 Try.underlying48 rfl (size48 _) ?_ | (go_at_call 43; refine (HY.out _).mono ?_))
  rintro e w5 ⟨rfl, b5⟩
  have p2 := at_later b5 m2
  have p5 := Row.later m5 b5 (Row.lt m5)
  have y5 : Hid (Below w.heap.size w w5) := below_from y4.out b5 y4.out.size
  have l5 := p5.lt
  have l2 : w.heap.size + 1 + 1 < w5.heap.size := (Array.getElem?_eq_some_iff.1 p2).1
  have L5 : Hid (g7 < w5.heap.size ∧ w.heap.size + 1 + 1 < w5.heap.size) := ⟨l5, l2⟩
  clear b5 m1 m2 m3 m5 y4 l2 l5 HY L3 s1
  dsimp only
  iterate 16 go_step
  have n2 := at_alloc (o := .cells (bigR 0) 48) (at_alloc (o := .cells (bigR 0) 48) p2)
  have n5 := (p5.alloc (.cells (bigR 0) 48)).alloc (.cells (bigR 0) 48)
  have n7 : Row ((w5.alloc (.cells (bigR 0) 48)).alloc (.cells (bigR 0) 48)) w5.heap.size (bigR 0) := (row_new w5 _ _ rfl).alloc _
  have n8 : Row ((w5.alloc (.cells (bigR 0) 48)).alloc (.cells (bigR 0) 48)) (w5.heap.size + 1) (bigR 0) := row_new _ _ _ (by simp)
  have n8' := row_other (c' := bigR y) (g' := w5.heap.size) n8 (by omega)
  refine wpList_store_row rfl 48 _ _ rfl w5.heap.size (bigR y) rfl rfl 48 (bigR 0) n7 (size48 _) (by rw [bigR_size, bigR_size]) (one48 _) ?_
  refine wpList_store_row rfl 48 _ _ rfl (w5.heap.size + 1) (bigR z2) rfl rfl 48 (bigR 0) n8' (size48 _) (by rw [bigR_size, bigR_size]) (one48 _) ?_
  have m2 := at_setRow (c := bigR z2) (g' := w5.heap.size + 1) (at_setRow (c := bigR y) (g' := w5.heap.size) n2 (by have := L5.out; omega)) (by have := L5.out; omega)
  have m5 := row_other (c' := bigR z2) (g' := w5.heap.size + 1) (row_other (c' := bigR y) (g' := w5.heap.size) n5 (by have := L5.out; omega)) (by have := L5.out; omega)
  have m7 := row_other (c' := bigR z2) (g' := w5.heap.size + 1) (Row.setRow (c' := bigR y) n7) (by omega)
  have y6 : Hid (Below w.heap.size w ((((w5.alloc (.cells (bigR 0) 48)).alloc (.cells (bigR 0) 48)).setRow w5.heap.size (bigR y)).setRow (w5.heap.size + 1) (bigR z2))) := by
    have h := L5.out
    refine below_setRow (below_setRow ((y5.out.alloc y5.out.size _).alloc ?_ _) y5.out.size) ?_
    · simp; omega
    · omega
  clear p2 p5 n2 n5 n7 n8 n8' y5
  generalize (((w5.alloc (.cells (bigR 0) 48)).alloc (.cells (bigR 0) 48)).setRow w5.heap.size (bigR y)).setRow (w5.heap.size + 1) (bigR z2) = w6 at *
  generalize w5.heap.size = g9 at *
  clear hz
  go_upto_region 4 with fail
  go_upto_region 5 with (first | refine wpList_load_row rfl 48 _ rfl g7 rfl 48 (bigR x) (0, 0) _ m5 Try.underlying48 rfl (size48 _) ?_ | (go_at_call 44; refine (HP.out _).mono ?_))
  rintro e w7 ⟨rfl, b7⟩
  have p2 := at_later b7 m2
  have p7 := Row.later m7 b7 (Row.lt m7)
  have y7 : Hid (Below w.heap.size w w7) := below_from y6.out b7 y6.out.size
  clear b7 m2 m5 m7 y6 L5 HP
  go_upto_region 5 with fail
  go_upto_region 6 with (first | refine wpList_load_row rfl 48 _ rfl g9 rfl 48 (bigR y) (0, 0) _ p7 Try.underlying48 rfl (size48 _) ?_ | (go_at_call 44; refine (HQ.out _).mono ?_))
  rintro e w8 ⟨rfl, b8⟩
  have k2 := at_later b8 p2
  have y8 : Hid (Below w.heap.size w w8) := below_from y7.out b8 y7.out.size
  clear b8 p2 p7 y7 HQ
  obtain ⟨c0, c1, f0, f1⟩ : w8.cell? ⟨w.heap.size + 1 + 1, 0, none⟩ = some (.int .u64 0) ∧ w8.cell? ⟨w.heap.size + 1 + 1, 1, none⟩ = some (.int .u64 0) ∧ w8.frozen? ⟨w.heap.size + 1 + 1, 0, none⟩ = false ∧ w8.frozen? ⟨w.heap.size + 1 + 1, 1, none⟩ = false := ⟨Lib.cell_of_heap k2 0, Lib.cell_of_heap k2 1, Lib.frozen_of_heap k2 0, Lib.frozen_of_heap k2 1⟩
  have K2 : Hid (w8.heap[w.heap.size + 1 + 1]? = some (.cells #[.int .u64 0, .int .u64 0] 29)) := k2
  clear k2
  cases ok <;> cases fine
  all_goals
    go_wp2_with fail
  all_goals have ka := Lib.cell_of_heap (at_set2 (v := .int .u64 0) (v' := .int .u64 0) K2.out) 0
  all_goals have kb := Lib.cell_of_heap (at_set2 (v := .int .u64 0) (v' := .int .u64 0) K2.out) 1
  all_goals have kc := Lib.cell_of_heap (at_set2 (v := .int .u64 p) (v' := .int .u64 q) K2.out) 0
  all_goals have kd := Lib.cell_of_heap (at_set2 (v := .int .u64 p) (v' := .int .u64 q) K2.out) 1
  all_goals refine bodyPost_ret (by simp [results, Try.results30, go_sem, ka, kb, kc, kd]; rfl) rfl ?_
  all_goals exact ⟨rfl, (y8.out.setCell (by simp; omega) _).setCell (by simp; omega) _⟩

end Go.Proofs.Ytfcegoibelokpaa
