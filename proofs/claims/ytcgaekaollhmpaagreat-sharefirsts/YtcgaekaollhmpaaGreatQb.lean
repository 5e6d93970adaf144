/-
  The contract of the program's compare: two products of 128 bits, compared.
-/
import Derived.Test.YtcgaekaollhmpaaGreatQa
namespace Go.Proofs.YtcgaekaollhmpaaGreat
open Go.RowKit

theorem keepB {a b c d : Nat} {g0 B : Nat} {W w1 : World} (hb : Below B W w1) (hB : g0 + 2 ≤ B) (h : W.cell? ⟨g0, 0, none⟩ = some (.int .u64 a) ∧ W.cell? ⟨g0, 1, none⟩ = some (.int .u64 b) ∧ W.cell? ⟨g0 + 1, 0, none⟩ = some (.int .u64 c) ∧ W.cell? ⟨g0 + 1, 1, none⟩ = some (.int .u64 d) ∧ g0 + 1 < W.heap.size) : w1.cell? ⟨g0, 0, none⟩ = some (.int .u64 a) ∧ w1.cell? ⟨g0, 1, none⟩ = some (.int .u64 b) ∧ w1.cell? ⟨g0 + 1, 0, none⟩ = some (.int .u64 c) ∧ w1.cell? ⟨g0 + 1, 1, none⟩ = some (.int .u64 d) ∧ g0 + 1 < w1.heap.size := by
  obtain ⟨h0, h1, h2, h3, h4⟩ := h
  have hs := hb.size
  refine ⟨?_, ?_, ?_, ?_, by omega⟩
  · rw [hb.cell (by simp; omega)]; exact h0
  · rw [hb.cell (by simp; omega)]; exact h1
  · rw [hb.cell (by simp; omega)]; exact h2
  · rw [hb.cell (by simp; omega)]; exact h3
theorem keepS {a b c d : Nat} {g0 : Nat} {W w1 : World} (hb : Below W.heap.size W w1) (h : W.cell? ⟨g0, 0, none⟩ = some (.int .u64 a) ∧ W.cell? ⟨g0, 1, none⟩ = some (.int .u64 b) ∧ W.cell? ⟨g0 + 1, 0, none⟩ = some (.int .u64 c) ∧ W.cell? ⟨g0 + 1, 1, none⟩ = some (.int .u64 d) ∧ g0 + 1 < W.heap.size) : w1.cell? ⟨g0, 0, none⟩ = some (.int .u64 a) ∧ w1.cell? ⟨g0, 1, none⟩ = some (.int .u64 b) ∧ w1.cell? ⟨g0 + 1, 0, none⟩ = some (.int .u64 c) ∧ w1.cell? ⟨g0 + 1, 1, none⟩ = some (.int .u64 d) ∧ g0 + 1 < w1.heap.size :=
  keepB hb (by omega) h
theorem keepA {a b c d : Nat} {g0 : Nat} {W : World} {o : Obj} (h : W.cell? ⟨g0, 0, none⟩ = some (.int .u64 a) ∧ W.cell? ⟨g0, 1, none⟩ = some (.int .u64 b) ∧ W.cell? ⟨g0 + 1, 0, none⟩ = some (.int .u64 c) ∧ W.cell? ⟨g0 + 1, 1, none⟩ = some (.int .u64 d) ∧ g0 + 1 < W.heap.size) : (W.alloc o).cell? ⟨g0, 0, none⟩ = some (.int .u64 a) ∧ (W.alloc o).cell? ⟨g0, 1, none⟩ = some (.int .u64 b) ∧ (W.alloc o).cell? ⟨g0 + 1, 0, none⟩ = some (.int .u64 c) ∧ (W.alloc o).cell? ⟨g0 + 1, 1, none⟩ = some (.int .u64 d) ∧ g0 + 1 < (W.alloc o).heap.size :=
  keepS ((Below.refl _ W).alloc (Nat.le_refl _) _) h
theorem keepT {a b c d : Nat} {g0 g k : Nat} {W : World} {v : Value} (hg : g0 + 1 < g) (h : W.cell? ⟨g0, 0, none⟩ = some (.int .u64 a) ∧ W.cell? ⟨g0, 1, none⟩ = some (.int .u64 b) ∧ W.cell? ⟨g0 + 1, 0, none⟩ = some (.int .u64 c) ∧ W.cell? ⟨g0 + 1, 1, none⟩ = some (.int .u64 d) ∧ g0 + 1 < W.heap.size) : (W.setCell ⟨g, k, none⟩ v).cell? ⟨g0, 0, none⟩ = some (.int .u64 a) ∧ (W.setCell ⟨g, k, none⟩ v).cell? ⟨g0, 1, none⟩ = some (.int .u64 b) ∧ (W.setCell ⟨g, k, none⟩ v).cell? ⟨g0 + 1, 0, none⟩ = some (.int .u64 c) ∧ (W.setCell ⟨g, k, none⟩ v).cell? ⟨g0 + 1, 1, none⟩ = some (.int .u64 d) ∧ g0 + 1 < (W.setCell ⟨g, k, none⟩ v).heap.size :=
  keepB (B := g0 + 2) ((Below.refl _ W).setCell (by simp; omega) _) (Nat.le_refl _) h


theorem keep1c' {W w1 : World} {a : Addr} {v : Value} (hb : Below W.heap.size W w1) (h : W.cell? a = some v) : w1.cell? a = some v := by
  rw [hb.cell (block_lt_of_cell h)]; exact h
theorem keep4c' {W w1 : World} {a a2 a3 a4 : Addr} {v v2 v3 v4 : Value} (hb : Below W.heap.size W w1) (h : W.cell? a = some v ∧ W.cell? a2 = some v2 ∧ W.cell? a3 = some v3 ∧ W.cell? a4 = some v4) : w1.cell? a = some v ∧ w1.cell? a2 = some v2 ∧ w1.cell? a3 = some v3 ∧ w1.cell? a4 = some v4 := ⟨keep1c' hb h.1, keep1c' hb h.2.1, keep1c' hb h.2.2.1, keep1c' hb h.2.2.2⟩
theorem newN {w : World} {n : Nat} {o : Obj} (h : w.heap.size = n) : (w.alloc o).heap[n]? = some o := by subst h; exact new0
theorem at_set2 {W : World} {g : Nat} {x y v v' : Value} {ty : TypeId} (h : W.heap[g]? = some (.cells #[x, y] ty)) : ((W.setCell ⟨g, 0, none⟩ v).setCell ⟨g, 1, none⟩ v').heap[g]? = some (.cells #[v, v'] ty) :=
  heap_setCell_same _ g 1 #[v, y] ty v' (heap_setCell_same W g 0 #[x, y] ty v h)

set_option maxHeartbeats 8000000 in
theorem cmps_at (a b c d h1 l1 h2 l2 : Nat) (w : World)
    (T1 : Hid (∀ w, Calls Tryz.prog 83 #[.int .u64 a, .int .u64 d] w fun e w' => e = .returned (.agg #[.int .u64 h1, .int .u64 l1]) ∧ Below w.heap.size w w'))
    (T2 : Hid (∀ w, Calls Tryz.prog 83 #[.int .u64 c, .int .u64 b] w fun e w' => e = .returned (.agg #[.int .u64 h2, .int .u64 l2]) ∧ Below w.heap.size w w')) :
    Calls Tryz.prog 57 #[.agg #[.int .u64 a, .int .u64 b], .agg #[.int .u64 c, .int .u64 d]] w fun e w' => e = .returned (.int .i64 (orI (Q.ord h1 h2) (Q.ord l1 l2))) ∧ Below w.heap.size w w' := by
  go_enter Tryz.func57, Tryz.ntmps57
  go_wp2_with fail
  go_cut [5, 6] from 7 to 16 (fun s5 s6 wx => ∃ g h : Nat, s5 = .pointer (some ⟨g, 0, none⟩) ∧ s6 = .pointer (some ⟨h, 0, none⟩) ∧ wx.heap[g]? = some (.cells #[.int .u64 h1, .int .u64 l1] 137) ∧ wx.heap[h]? = some (.cells #[.int .u64 h2, .int .u64 l2] 137) ∧ Below w.heap.size w wx)
  case first =>
    go_region_held3 (fun w' : World => w'.cell? ⟨w.heap.size, 0, none⟩ = some (.int .u64 a) ∧ w'.cell? ⟨w.heap.size, 1, none⟩ = some (.int .u64 b) ∧ w'.cell? ⟨w.heap.size + 1, 0, none⟩ = some (.int .u64 c) ∧ w'.cell? ⟨w.heap.size + 1, 1, none⟩ = some (.int .u64 d) ∧ w.heap.size + 1 < w'.heap.size) (repeat' (first | (with_reducible assumption) | (with_reducible refine keepS b1 ?_) | (with_reducible refine keepS b2 ?_) | (with_reducible refine keepA ?_) | (with_reducible refine keepT ?_ ?_) | omega | go_keep)) (first | (go_at_call_of 83 (Value.int .u64 a); refine (T1.out _).mono ?_; rintro e w1 ⟨rfl, b1⟩; have y1 := below_from (B := w.heap.size) (w := w) (by go_grown) b1 (by simp; omega); have ys1 : w.heap.size + 2 ≤ w1.heap.size := (by have hsz := b1.size; (try simp at hsz); omega); (first | ((with_reducible have zz := keep2 b1 (g := w.heap.size + 1 + 1) (x := Value.int .u64 0) (y := Value.int .u64 0) (ty := 137) (at_drew first2)); obtain ⟨z2a, z2a1, z2a2, z2a3, z2a4, z2a5, z2a6⟩ := zz) | ((with_reducible have zz := keep2 b1 (g := w.heap.size + 1 + 1) (x := Value.int .u64 0) (y := Value.int .u64 0) (ty := 137) (at_drew (at_alloc first2))); obtain ⟨z2a, z2a1, z2a2, z2a3, z2a4, z2a5, z2a6⟩ := zz) | ((with_reducible have zz := keep2 b1 (g := w.heap.size + 1 + 1) (x := Value.int .u64 0) (y := Value.int .u64 0) (ty := 137) (at_drew (at_alloc (at_alloc first2)))); obtain ⟨z2a, z2a1, z2a2, z2a3, z2a4, z2a5, z2a6⟩ := zz) | skip); (first | ((with_reducible have zz := keep2 b1 (g := w.heap.size + 1 + 1 + 1) (x := Value.int .u64 0) (y := Value.int .u64 0) (ty := 137) (at_drew first3)); obtain ⟨z3a, z3a1, z3a2, z3a3, z3a4, z3a5, z3a6⟩ := zz) | ((with_reducible have zz := keep2 b1 (g := w.heap.size + 1 + 1 + 1) (x := Value.int .u64 0) (y := Value.int .u64 0) (ty := 137) (at_drew (at_alloc first3))); obtain ⟨z3a, z3a1, z3a2, z3a3, z3a4, z3a5, z3a6⟩ := zz) | ((with_reducible have zz := keep2 b1 (g := w.heap.size + 1 + 1 + 1) (x := Value.int .u64 0) (y := Value.int .u64 0) (ty := 137) (at_drew (at_alloc (at_alloc first3)))); obtain ⟨z3a, z3a1, z3a2, z3a3, z3a4, z3a5, z3a6⟩ := zz) | skip)) | (go_at_call_of 83 (Value.int .u64 c); refine (T2.out _).mono ?_; rintro e w2 ⟨rfl, b2⟩; have y2 := below_from (B := w.heap.size) (w := w) (by go_grown) b2 (by first | omega | (simp; omega)); have ys2 : w.heap.size + 2 ≤ w2.heap.size := (by have hsz := b2.size; (try simp at hsz); omega); (first | ((with_reducible have zz := keep2 b2 (g := w.heap.size + 1 + 1) (x := Value.int .u64 0) (y := Value.int .u64 0) (ty := 137) (z2a)); obtain ⟨z2b, z2b1, z2b2, z2b3, z2b4, z2b5, z2b6⟩ := zz) | ((with_reducible have zz := keep2 b2 (g := w.heap.size + 1 + 1) (x := Value.int .u64 0) (y := Value.int .u64 0) (ty := 137) (at_alloc z2a)); obtain ⟨z2b, z2b1, z2b2, z2b3, z2b4, z2b5, z2b6⟩ := zz) | ((with_reducible have zz := keep2 b2 (g := w.heap.size + 1 + 1) (x := Value.int .u64 0) (y := Value.int .u64 0) (ty := 137) (at_alloc (at_alloc z2a))); obtain ⟨z2b, z2b1, z2b2, z2b3, z2b4, z2b5, z2b6⟩ := zz) | skip); (first | ((with_reducible have zz := keep2 b2 (g := w.heap.size + 1 + 1 + 1) (x := Value.int .u64 0) (y := Value.int .u64 0) (ty := 137) (z3a)); obtain ⟨z3b, z3b1, z3b2, z3b3, z3b4, z3b5, z3b6⟩ := zz) | ((with_reducible have zz := keep2 b2 (g := w.heap.size + 1 + 1 + 1) (x := Value.int .u64 0) (y := Value.int .u64 0) (ty := 137) (at_alloc z3a)); obtain ⟨z3b, z3b1, z3b2, z3b3, z3b4, z3b5, z3b6⟩ := zz) | ((with_reducible have zz := keep2 b2 (g := w.heap.size + 1 + 1 + 1) (x := Value.int .u64 0) (y := Value.int .u64 0) (ty := 137) (at_alloc (at_alloc z3a))); obtain ⟨z3b, z3b1, z3b2, z3b3, z3b4, z3b5, z3b6⟩ := zz) | skip); (first | ((with_reducible have zz := keep2 b2 (g := w1.heap.size) (x := Value.int .u64 0) (y := Value.int .u64 0) (ty := 137) (new0)); obtain ⟨z4b, z4b1, z4b2, z4b3, z4b4, z4b5, z4b6⟩ := zz) | ((with_reducible have zz := keep2 b2 (g := w1.heap.size) (x := Value.int .u64 0) (y := Value.int .u64 0) (ty := 137) (at_alloc new0)); obtain ⟨z4b, z4b1, z4b2, z4b3, z4b4, z4b5, z4b6⟩ := zz) | skip); (first | ((with_reducible have zz := keep2 b2 (g := w1.heap.size + 1) (x := Value.int .u64 0) (y := Value.int .u64 0) (ty := 137) (new1)); obtain ⟨z5b, z5b1, z5b2, z5b3, z5b4, z5b5, z5b6⟩ := zz) | skip)))
    all_goals (go_wp2_with fail; go_meet)
    all_goals (refine ⟨_, _, rfl, rfl, ?_, ?_, ?_⟩)
    all_goals (repeat' (first | (with_reducible assumption) | (with_reducible exact new0) | (with_reducible exact new1) | (with_reducible refine newN ?_; (simp; done)) | (with_reducible refine at_set2 (x := .int .u64 0) (y := .int .u64 0) ?_) | (with_reducible refine at_alloc ?_) | (with_reducible refine at_other ?_ ?_) | (with_reducible refine Below.alloc ?_ ?_ _) | (with_reducible refine Below.setCell ?_ ?_ _) | omega | (simp; omega)))
  case rest =>
    obtain ⟨g, h, rfl, rfl, hg, hh, hbel⟩ := hcut
    have c0 := Lib.cell_of_heap hg 0
    have c1 := Lib.cell_of_heap hg 1
    have c2 := Lib.cell_of_heap hh 0
    have c3 := Lib.cell_of_heap hh 1
    clear hg hh T1 T2
    have hgl : g < wc.heap.size := block_lt_of_cell c0
    have hhl : h < wc.heap.size := block_lt_of_cell c2
    have hb : Below w.heap.size w wc := hbel
    have hbs : w.heap.size ≤ wc.heap.size := hbel.size
    clear hbel
    go_wp2_with fail
    go_region_held3 (fun w' : World => w'.cell? ⟨g, 0, none⟩ = some (.int .u64 h1) ∧ w'.cell? ⟨g, 1, none⟩ = some (.int .u64 l1) ∧ w'.cell? ⟨h, 0, none⟩ = some (.int .u64 h2) ∧ w'.cell? ⟨h, 1, none⟩ = some (.int .u64 l2)) (first | (with_reducible assumption) | (refine keep4c' ((Below.refl _ _).alloc (Nat.le_refl _) _) ?_; (first | (with_reducible assumption) | go_keep)) | go_keep)
      (first | (go_at_call 85; refine (compare_any _ _ _).mono ?_; rintro e w' ⟨rfl, rfl⟩) | (go_at_call 84; refine (or_two (Q.ord h1 h2) (Q.ord l1 l2) _ _ _ ?_ ?_).mono ?_; exact Lib.cell_of_heap (at_drew new0) 0; exact Lib.cell_of_heap (at_drew new0) 1; rintro e w' ⟨rfl, rfl⟩))
    all_goals go_wp2_with fail
    go_returns
    exact ⟨rfl, (hb.alloc hbs _).drew⟩

theorem cmps_any (a b c d : Nat) (w : World) (ha : a < 18446744073709551616) (hb : b < 18446744073709551616) (hc : c < 18446744073709551616) (hd : d < 18446744073709551616) :
    Calls Tryz.prog 57 #[.agg #[.int .u64 a, .int .u64 b], .agg #[.int .u64 c, .int .u64 d]] w fun e w' => e = .returned (.int .i64 (Q.ord (a * d) (c * b))) ∧ Below w.heap.size w w' := by
  have := cmps_at a b c d _ _ _ _ w (fun w => times_any a d w ha hd) (fun w => times_any c b w hc hb)
  rw [ord_wide] at this
  exact this

end Go.Proofs.YtcgaekaollhmpaaGreat
