/-
  The contract of the program's meet.
-/
import Derived.Test.YtfcegoibelokpaaWalkE
namespace Go.Proofs.Ytfcegoibelokpaa
open Go.RowKit

theorem keep7 {W w1 : World} {g : Nat} {x0 x1 x2 x3 x4 x5 x6 : Value} {ty : TypeId} (b : Below W.heap.size W w1) (h : W.heap[g]? = some (.cells #[x0, x1, x2, x3, x4, x5, x6] ty)) :
    w1.heap[g]? = some (.cells #[x0, x1, x2, x3, x4, x5, x6] ty) ∧ w1.cell? ⟨g, 0, none⟩ = some x0 ∧ w1.cell? ⟨g, 1, none⟩ = some x1 ∧ w1.cell? ⟨g, 2, none⟩ = some x2 ∧ w1.cell? ⟨g, 3, none⟩ = some x3 ∧ w1.cell? ⟨g, 4, none⟩ = some x4 ∧ w1.cell? ⟨g, 5, none⟩ = some x5 ∧ w1.cell? ⟨g, 6, none⟩ = some x6 ∧
      (w1.frozen? ⟨g, 0, none⟩ = false ∧ w1.frozen? ⟨g, 1, none⟩ = false ∧ w1.frozen? ⟨g, 2, none⟩ = false ∧ w1.frozen? ⟨g, 3, none⟩ = false ∧ w1.frozen? ⟨g, 4, none⟩ = false ∧ w1.frozen? ⟨g, 5, none⟩ = false ∧ w1.frozen? ⟨g, 6, none⟩ = false) ∧ g < w1.heap.size ∧ ¬ g = w1.heap.size := by
  have h1 : w1.heap[g]? = some (.cells #[x0, x1, x2, x3, x4, x5, x6] ty) := (b.block g (Array.getElem?_eq_some_iff.1 h).1).trans h
  have h2 : g < w1.heap.size := (Array.getElem?_eq_some_iff.1 h1).1
  exact ⟨h1, Lib.cell_of_heap h1 0, Lib.cell_of_heap h1 1, Lib.cell_of_heap h1 2, Lib.cell_of_heap h1 3, Lib.cell_of_heap h1 4, Lib.cell_of_heap h1 5, Lib.cell_of_heap h1 6, ⟨Lib.frozen_of_heap h1 0, Lib.frozen_of_heap h1 1, Lib.frozen_of_heap h1 2, Lib.frozen_of_heap h1 3, Lib.frozen_of_heap h1 4, Lib.frozen_of_heap h1 5, Lib.frozen_of_heap h1 6⟩, h2, by omega⟩

theorem at_set7 {W : World} {g : Nat} {x0 x1 x2 x3 x4 x5 x6 v0 v1 v2 v3 v4 v5 v6 : Value} {ty : TypeId} (h : W.heap[g]? = some (.cells #[x0, x1, x2, x3, x4, x5, x6] ty)) :
    (((((((W.setCell ⟨g, 0, none⟩ v0).setCell ⟨g, 1, none⟩ v1).setCell ⟨g, 2, none⟩ v2).setCell ⟨g, 3, none⟩ v3).setCell ⟨g, 4, none⟩ v4).setCell ⟨g, 5, none⟩ v5).setCell ⟨g, 6, none⟩ v6).heap[g]? = some (.cells #[v0, v1, v2, v3, v4, v5, v6] ty) :=
  heap_setCell_same _ g 6 #[v0, v1, v2, v3, v4, v5, x6] ty v6 (heap_setCell_same _ g 5 #[v0, v1, v2, v3, v4, x5, x6] ty v5 (heap_setCell_same _ g 4 #[v0, v1, v2, v3, x4, x5, x6] ty v4 (heap_setCell_same _ g 3 #[v0, v1, v2, x3, x4, x5, x6] ty v3 (heap_setCell_same _ g 2 #[v0, v1, x2, x3, x4, x5, x6] ty v2 (heap_setCell_same _ g 1 #[v0, x1, x2, x3, x4, x5, x6] ty v1 (heap_setCell_same W g 0 #[x0, x1, x2, x3, x4, x5, x6] ty v0 h))))))

theorem below7 {W : World} {g : Nat} {v0 v1 v2 v3 v4 v5 v6 : Value} : Below g W (((((((W.setCell ⟨g, 0, none⟩ v0).setCell ⟨g, 1, none⟩ v1).setCell ⟨g, 2, none⟩ v2).setCell ⟨g, 3, none⟩ v3).setCell ⟨g, 4, none⟩ v4).setCell ⟨g, 5, none⟩ v5).setCell ⟨g, 6, none⟩ v6) :=
  (((((((Below.refl g W).setCell (Nat.le_refl _) _).setCell (Nat.le_refl _) _).setCell (Nat.le_refl _) _).setCell (Nat.le_refl _) _).setCell (Nat.le_refl _) _).setCell (Nat.le_refl _) _).setCell (Nat.le_refl _) _
theorem keep4B {W w1 : World} {a a2 a3 a4 : Addr} {v v2 v3 v4 : Value} {B : Nat} (hb : Below B W w1) (h1 : a.block < B) (h2 : a2.block < B) (h3 : a3.block < B) (h4 : a4.block < B) (h : W.cell? a = some v ∧ W.cell? a2 = some v2 ∧ W.cell? a3 = some v3 ∧ W.cell? a4 = some v4) : w1.cell? a = some v ∧ w1.cell? a2 = some v2 ∧ w1.cell? a3 = some v3 ∧ w1.cell? a4 = some v4 := by
  rw [hb.cell h1, hb.cell h2, hb.cell h3, hb.cell h4]; exact h
theorem le2 {n : Nat} : n ≤ n + 1 + 1 := by omega
theorem below3 {w w1 : World} {A B C : Obj} {n : Nat} (b : Below ((((w.alloc A).alloc B).alloc C).drewN n).heap.size ((((w.alloc A).alloc B).alloc C).drewN n) w1) : Below w.heap.size w w1 :=
  below_fromE (below_drewN ((((Below.refl _ w).alloc (Nat.le_refl _) A).alloc (by simp) B).alloc (by simp; omega) C) n) b (by simp; omega)
theorem lt2 {n : Nat} : n < n + 1 + 1 := by omega
theorem lt1 {n : Nat} : n + 1 < n + 1 + 1 := by omega

set_option maxHeartbeats 4000000 in
theorem meet_at (n1 d1 n2 d2 g e1 e2 h1 l1 h2 l2 : Nat) (w : World)
    (hg : ∀ w, Calls Try.prog 34 #[.int .u64 d1, .int .u64 d2] w fun e w' => e = .returned (.int .u64 g) ∧ ∃ n, w' = w.drewN n)
    (hg0 : ¬ g = 0) (q1 : IntKind.u64.wrap ((d1 : Int) / (g : Int)) = (e1 : Int)) (q2 : IntKind.u64.wrap ((d2 : Int) / (g : Int)) = (e2 : Int))
    (t1 : ∀ w, Calls Try.prog 36 #[.int .u64 n1, .int .u64 e2] w fun e w' => e = .returned (.agg #[.int .u64 h1, .int .u64 l1]) ∧ Below w.heap.size w w')
    (t2 : ∀ w, Calls Try.prog 36 #[.int .u64 n2, .int .u64 e1] w fun e w' => e = .returned (.agg #[.int .u64 h2, .int .u64 l2]) ∧ Below w.heap.size w w') :
    Calls Try.prog 27 #[.agg #[.int .u64 n1, .int .u64 d1], .agg #[.int .u64 n2, .int .u64 d2]] w fun e w' => e = .returned (.agg #[.int .u64 h1, .int .u64 l1, .int .u64 h2, .int .u64 l2, .int .u64 e1, .int .u64 d2, .int .u64 g]) ∧ Below w.heap.size w w' := by
  have HG : Hid (∀ w, Calls Try.prog 34 #[.int .u64 d1, .int .u64 d2] w fun e w' => e = .returned (.int .u64 g) ∧ ∃ n, w' = w.drewN n) := hg
  have HT1 : Hid (∀ w, Calls Try.prog 36 #[.int .u64 n1, .int .u64 e2] w fun e w' => e = .returned (.agg #[.int .u64 h1, .int .u64 l1]) ∧ Below w.heap.size w w') := t1
  have HT2 : Hid (∀ w, Calls Try.prog 36 #[.int .u64 n2, .int .u64 e1] w fun e w' => e = .returned (.agg #[.int .u64 h2, .int .u64 l2]) ∧ Below w.heap.size w w') := t2
  clear hg t1 t2
  have hg1 : ¬ ((g : Int) = 0) := by omega
  go_enter Try.func27, Try.ntmps27
  go_wp2_with (go_at_call 34; refine (HG.out _).mono ?_; rintro e w' ⟨rfl, nd, rfl⟩)
  clear HG
  go_region_held3 (fun w' : World => w'.cell? ⟨w.heap.size, 0, none⟩ = some (.int .u64 n1) ∧ w'.cell? ⟨w.heap.size, 1, none⟩ = some (.int .u64 d1) ∧ w'.cell? ⟨w.heap.size + 1, 0, none⟩ = some (.int .u64 n2) ∧ w'.cell? ⟨w.heap.size + 1, 1, none⟩ = some (.int .u64 d2)) (repeat' (first | (with_reducible assumption) | (with_reducible refine keep4c (by assumption) ?_) | (with_reducible refine keep4t lt2 lt2 lt1 lt1 ?_) | go_keep))
    (first | (go_at_call_of 36 (Value.int .u64 n1); refine (HT1.out _).mono ?_; rintro e w1 ⟨rfl, b1⟩; have y1 : Hid (Below w.heap.size w w1) := below3 b1; obtain ⟨z1, z2, z3, z4, z5, z6, z7, z8, z9, z10, z11⟩ := keep7 b1 (g := w.heap.size + 1 + 1) (x0 := .int .u64 0) (x1 := .int .u64 0) (x2 := .int .u64 0) (x3 := .int .u64 0) (x4 := .int .u64 0) (x5 := .int .u64 0) (x6 := .int .u64 0) (ty := 54) (at_drewN first2')) | (go_at_call_of 36 (Value.int .u64 n2); refine (HT2.out _).mono ?_; rintro e w2 ⟨rfl, b2⟩; have y2 : Hid (Below w.heap.size w w2) := below_fromE y1.out b2 y1.out.size; obtain ⟨v1, v2, v3, v4, v5, v6, v7, v8, v9, v10, v11⟩ := keep7 b2 z1))
  all_goals go_wp2_with fail
  all_goals (
    have r := at_set7 (v0 := .int .u64 h1) (v1 := .int .u64 l1) (v2 := .int .u64 h2) (v3 := .int .u64 l2) (v4 := .int .u64 e1) (v5 := .int .u64 d2) (v6 := .int .u64 g) v1
    have c0 := Lib.cell_of_heap r 0
    have c1 := Lib.cell_of_heap r 1
    have c2 := Lib.cell_of_heap r 2
    have c3 := Lib.cell_of_heap r 3
    have c4 := Lib.cell_of_heap r 4
    have c5 := Lib.cell_of_heap r 5
    have c6 := Lib.cell_of_heap r 6
    simp only [List.getElem?_toArray, List.getElem?_cons_zero, List.getElem?_cons_succ] at c0 c1 c2 c3 c4 c5 c6
    refine bodyPost_ret (by simp [results, Try.results27, go_sem, c0, c1, c2, c3, c4, c5, c6]; rfl) rfl ?_
    refine ⟨rfl, ?_⟩
    exact y2.out.trans (below7.mono le2))

end Go.Proofs.Ytfcegoibelokpaa
