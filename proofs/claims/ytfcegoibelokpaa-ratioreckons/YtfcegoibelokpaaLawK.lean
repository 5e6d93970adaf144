/-
  The walk of the law RatioReckons.
-/
import Derived.Test.YtfcegoibelokpaaBigQ
namespace Go.Proofs.Ytfcegoibelokpaa
open Go.RowKit Big

theorem keep4o {W : World} {a a2 a3 a4 : Addr} {v v2 v3 v4 : Value} {o : Obj} (h : W.cell? a = some v ∧ W.cell? a2 = some v2 ∧ W.cell? a3 = some v3 ∧ W.cell? a4 = some v4) : (W.alloc o).cell? a = some v ∧ (W.alloc o).cell? a2 = some v2 ∧ (W.alloc o).cell? a3 = some v3 ∧ (W.alloc o).cell? a4 = some v4 :=
  keep4c (w1 := W.alloc o) ((Below.refl _ W).alloc (Nat.le_refl _) o) h

/-- blocks of two cells -/
def Holds (W : World) (L : List (Nat × Value × Value × TypeId)) : Prop := ∀ t ∈ L, W.heap[t.1]? = some (.cells #[t.2.1, t.2.2.1] t.2.2.2)
theorem Holds.lt {W : World} {L : List (Nat × Value × Value × TypeId)} (h : Holds W L) : ∀ t ∈ L, t.1 < W.heap.size := fun t ht => (Array.getElem?_eq_some_iff.1 (h t ht)).1
theorem Holds.later {W w1 : World} {L : List (Nat × Value × Value × TypeId)} (h : Holds W L) (b : Below W.heap.size W w1) : Holds w1 L := fun t ht => at_later b (h t ht)
theorem Holds.drew {W : World} {L : List (Nat × Value × Value × TypeId)} (h : Holds W L) : Holds W.drew L := h
theorem Holds.alloc {W : World} {L : List (Nat × Value × Value × TypeId)} (h : Holds W L) (o : Obj) : Holds (W.alloc o) L := fun t ht => at_alloc (h t ht)
theorem Holds.new {W : World} {L : List (Nat × Value × Value × TypeId)} (h : Holds W L) (x y : Value) (ty : TypeId) : Holds (W.alloc (.cells #[x, y] ty)) ((W.heap.size, x, y, ty) :: L) := by
  intro t ht
  rcases List.mem_cons.1 ht with rfl | ht
  · exact new0
  · exact at_alloc (h t ht)
theorem Holds.set2 {W : World} {L : List (Nat × Value × Value × TypeId)} {g : Nat} {x0 y0 : Value} {ty : TypeId} (h : Holds W L) (n : W.heap[g]? = some (.cells #[x0, y0] ty)) (hlt : ∀ t ∈ L, t.1 < g) (x y : Value) :
    Holds ((W.setCell ⟨g, 0, none⟩ x).setCell ⟨g, 1, none⟩ y) ((g, x, y, ty) :: L) := by
  intro t ht
  rcases List.mem_cons.1 ht with rfl | ht
  · exact at_set2 n
  · have := hlt t ht
    exact at_other (at_other (h t ht) (by omega)) (by omega)
theorem keepHo {W : World} {L : List (Nat × Value × Value × TypeId)} {g g' : Nat} {v0 v1 v2 v3 : Value} {s t : TypeId} {o : Obj} (h : Holds W L) (m : (g, v0, v1, s) ∈ L) (m' : (g', v2, v3, t) ∈ L) :
    (W.alloc o).cell? ⟨g, 0, none⟩ = some v0 ∧ (W.alloc o).cell? ⟨g, 1, none⟩ = some v1 ∧ (W.alloc o).cell? ⟨g', 0, none⟩ = some v2 ∧ (W.alloc o).cell? ⟨g', 1, none⟩ = some v3 :=
  ⟨Lib.cell_of_heap (at_alloc (h _ m)) 0, Lib.cell_of_heap (at_alloc (h _ m)) 1, Lib.cell_of_heap (at_alloc (h _ m')) 0, Lib.cell_of_heap (at_alloc (h _ m')) 1⟩
theorem keepHs {W : World} {L : List (Nat × Value × Value × TypeId)} {g g' g0 : Nat} {v0 v1 v2 v3 x y : Value} {s t : TypeId} (h : Holds W L) (hlt : ∀ t ∈ L, t.1 < g0) (m : (g, v0, v1, s) ∈ L) (m' : (g', v2, v3, t) ∈ L) :
    ((W.setCell ⟨g0, 0, none⟩ x).setCell ⟨g0, 1, none⟩ y).cell? ⟨g, 0, none⟩ = some v0 ∧ ((W.setCell ⟨g0, 0, none⟩ x).setCell ⟨g0, 1, none⟩ y).cell? ⟨g, 1, none⟩ = some v1 ∧ ((W.setCell ⟨g0, 0, none⟩ x).setCell ⟨g0, 1, none⟩ y).cell? ⟨g', 0, none⟩ = some v2 ∧ ((W.setCell ⟨g0, 0, none⟩ x).setCell ⟨g0, 1, none⟩ y).cell? ⟨g', 1, none⟩ = some v3 := by
  have l1 := hlt _ m
  have l2 := hlt _ m'
  simp only [] at l1 l2
  have h1 := at_other (g' := g0) (k := 1) (v := y) (at_other (g' := g0) (k := 0) (v := x) (h _ m) (by simp only []; omega)) (by simp only []; omega)
  have h2 := at_other (g' := g0) (k := 1) (v := y) (at_other (g' := g0) (k := 0) (v := x) (h _ m') (by simp only []; omega)) (by simp only []; omega)
  exact ⟨Lib.cell_of_heap h1 0, Lib.cell_of_heap h1 1, Lib.cell_of_heap h2 0, Lib.cell_of_heap h2 1⟩
theorem two_cells {W : World} {g : Nat} {x y : Value} {ty : TypeId} (h : W.heap[g]? = some (.cells #[x, y] ty)) : W.cell? ⟨g, 0, none⟩ = some x ∧ W.cell? ⟨g, 1, none⟩ = some y ∧ W.frozen? ⟨g, 0, none⟩ = false ∧ W.frozen? ⟨g, 1, none⟩ = false :=
  ⟨Lib.cell_of_heap h 0, Lib.cell_of_heap h 1, Lib.frozen_of_heap h 0, Lib.frozen_of_heap h 1⟩

set_option maxHeartbeats 4000000 in
set_option maxRecDepth 100000 in
theorem reckons_at (a b c d x y e z u g p q i : Int) (w : World)
    (H15 : Hid (∀ w, Calls Try.prog 15 #[.agg #[.int .u64 a, .int .u64 b], .agg #[.int .u64 c, .int .u64 d]] w fun r w' => r = .returned (.tuple #[.agg #[.int .u64 x, .int .u64 y], .int .i64 e]) ∧ Below w.heap.size w w'))
    (H16 : Hid (∀ w, Calls Try.prog 16 #[.agg #[.int .u64 a, .int .u64 b], .agg #[.int .u64 c, .int .u64 d]] w fun r w' => r = .returned (.tuple #[.agg #[.int .u64 x, .int .u64 y], .int .i64 e]) ∧ Below w.heap.size w w'))
    (H17 : Hid (∀ w, Calls Try.prog 17 #[.agg #[.int .u64 a, .int .u64 b], .agg #[.int .u64 c, .int .u64 d]] w fun r w' => r = .returned (.tuple #[.agg #[.int .u64 z, .int .u64 u], .int .i64 g]) ∧ Below w.heap.size w w'))
    (H18 : Hid (∀ w, Calls Try.prog 18 #[.agg #[.int .u64 a, .int .u64 b], .agg #[.int .u64 c, .int .u64 d]] w fun r w' => r = .returned (.tuple #[.agg #[.int .u64 z, .int .u64 u], .int .i64 g]) ∧ Below w.heap.size w w'))
    (H19 : Hid (∀ w, Calls Try.prog 19 #[.agg #[.int .u64 a, .int .u64 b], .agg #[.int .u64 c, .int .u64 d]] w fun r w' => r = .returned (.tuple #[.agg #[.int .u64 p, .int .u64 q], .int .i64 i]) ∧ Below w.heap.size w w'))
    (H20 : Hid (∀ w, Calls Try.prog 20 #[.agg #[.int .u64 a, .int .u64 b], .agg #[.int .u64 c, .int .u64 d]] w fun r w' => r = .returned (.tuple #[.agg #[.int .u64 p, .int .u64 q], .int .i64 i]) ∧ Below w.heap.size w w'))
    (P1 : Hid (∀ w, Calls Try.prog 13 #[.agg #[.int .u64 a, .int .u64 b]] w fun r w' => r = .returned (.agg #[.int .u64 a, .int .u64 b]) ∧ Below w.heap.size w w'))
    (P2 : Hid (∀ w, Calls Try.prog 13 #[.agg #[.int .u64 c, .int .u64 d]] w fun r w' => r = .returned (.agg #[.int .u64 c, .int .u64 d]) ∧ Below w.heap.size w w'))
    (S1 : Hid (∀ w, Calls Try.prog 14 #[.agg #[.int .u64 x, .int .u64 y], .int .i64 e, .agg #[.int .u64 x, .int .u64 y], .int .i64 e] w fun r w' => r = .returned (.bool true) ∧ Below w.heap.size w w'))
    (S2 : Hid (∀ w, Calls Try.prog 14 #[.agg #[.int .u64 z, .int .u64 u], .int .i64 g, .agg #[.int .u64 z, .int .u64 u], .int .i64 g] w fun r w' => r = .returned (.bool true) ∧ Below w.heap.size w w'))
    (S3 : Hid (∀ w, Calls Try.prog 14 #[.agg #[.int .u64 p, .int .u64 q], .int .i64 i, .agg #[.int .u64 p, .int .u64 q], .int .i64 i] w fun r w' => r = .returned (.bool true) ∧ Below w.heap.size w w')) :
    Calls Try.prog 4 #[.agg #[.int .u64 a, .int .u64 b], .agg #[.int .u64 c, .int .u64 d]] w fun r w' => r = .returned (.bool true) ∧ Below w.heap.size w w' := by
  go_enter Try.func4, Try.ntmps4
  go_upto_region 3 with (go_at_call 8; refine (awake_any _).mono ?_; rintro r w1 ⟨rfl, b1⟩)
  have F1 : Holds w1 [(w.heap.size, .int .u64 a, .int .u64 b, 24), (w.heap.size + 1, .int .u64 c, .int .u64 d, 24)] := by
    intro t ht
    rcases List.mem_cons.1 ht with rfl | ht
    · exact at_later b1 first0
    · rcases List.mem_cons.1 ht with rfl | ht
      · exact at_later b1 first1
      · cases ht
  have y1 : Hid (Below w.heap.size w w1) := below_from (((Below.refl _ w).alloc (Nat.le_refl _) _).alloc (by simp) _) b1 (by simp; omega)
  clear b1
  obtain ⟨k0, k1, -, -⟩ := two_cells (F1 _ (List.mem_cons_self ..))
  obtain ⟨k2, k3, -, -⟩ := two_cells (F1 _ (List.mem_cons_of_mem _ (List.mem_cons_self ..)))
  simp only [] at k0 k1 k2 k3
  go_upto_region 4 with (go_at_call 15; refine (H15.out _).mono ?_; rintro r w2 ⟨rfl, b2⟩)
  have F2 := (F1.later b2).new (.int .u64 x) (.int .u64 y) 24
  have y2 : Hid (Below w.heap.size w (w2.alloc (.cells #[.int .u64 x, .int .u64 y] 24))) := (below_from y1.out b2 y1.out.size).alloc (below_from y1.out b2 y1.out.size).size _
  clear b2 F1 y1 k0 k1 k2 k3 H15
  generalize w2.alloc (.cells #[.int .u64 x, .int .u64 y] 24) = W2 at *
  generalize w2.heap.size = g1 at *
  go_cut [7, 8] from 25 to 32 (fun v7 v8 wx => ∃ gn, v7 = .pointer (some ⟨gn, 0, none⟩) ∧ v8 = .int .i64 e ∧ Holds wx ((gn, .int .u64 x, .int .u64 y, 29) :: [(g1, .int .u64 x, .int .u64 y, 24), (w.heap.size, .int .u64 a, .int .u64 b, 24), (w.heap.size + 1, .int .u64 c, .int .u64 d, 24)]) ∧ Hid (Below w.heap.size w wx))
  case first =>
    obtain ⟨k0, k1, -, -⟩ := two_cells (F2 _ (List.mem_cons_of_mem _ (List.mem_cons_self ..)))
    obtain ⟨k2, k3, -, -⟩ := two_cells (F2 _ (List.mem_cons_of_mem _ (List.mem_cons_of_mem _ (List.mem_cons_self ..))))
    simp only [] at k0 k1 k2 k3
    have lt0 := F2.lt
    clear S1 S2 S3
    go_region_held3 (fun w' : World => w'.cell? ⟨w.heap.size, 0, none⟩ = some (.int .u64 a) ∧ w'.cell? ⟨w.heap.size, 1, none⟩ = some (.int .u64 b) ∧ w'.cell? ⟨w.heap.size + 1, 0, none⟩ = some (.int .u64 c) ∧ w'.cell? ⟨w.heap.size + 1, 1, none⟩ = some (.int .u64 d)) (repeat' (first | (with_reducible assumption) | (with_reducible refine keep4c (by assumption) ?_) | exact keep4o (by assumption) | exact keepHo (by assumption) (List.mem_cons_of_mem _ (List.mem_cons_self ..)) (List.mem_cons_of_mem _ (List.mem_cons_of_mem _ (List.mem_cons_self ..))) | exact keepHs (by assumption) (by assumption) (List.mem_cons_of_mem _ (List.mem_cons_self ..)) (List.mem_cons_of_mem _ (List.mem_cons_of_mem _ (List.mem_cons_self ..))) | go_keep))
      (first
        | (go_at_call_of 13 (Value.int .u64 a); refine (P1.out _).mono ?_; rintro r v0 ⟨rfl, b0⟩; have F0 := Holds.later (by first | exact F2.drew | exact F2.drew.alloc _) b0; have yy0 : Hid (Below w.heap.size w v0) := below_from (by first | exact y2.out.drew | exact y2.out.drew.alloc y2.out.size _) b0 (by have := y2.out.size; simp; omega); have lt1 := F0.lt; try (have nb0 := keep2 b0 (x := .int .u64 0) (y := .int .u64 0) (ty := 29) new0; obtain ⟨nh0, nc0, nd0, ne0, nf0, -, -⟩ := nb0))
        | (go_at_call_of 13 (Value.int .u64 c); refine (P2.out _).mono ?_; rintro r v1 ⟨rfl, b1⟩; have F1 := Holds.later (by first | exact F0 | exact F0.alloc _) b1; have yy1 : Hid (Below w.heap.size w v1) := below_from (by first | exact yy0.out | exact yy0.out.alloc yy0.out.size _) b1 (by have := yy0.out.size; simp; omega); have lt2 := F1.lt; try (have nb1 := keep2 b1 (x := .int .u64 0) (y := .int .u64 0) (ty := 29) (by first | exact new0 | assumption); obtain ⟨nh1, nc1, nd1, ne1, nf1, -, -⟩ := nb1))
        | (go_at_call 16; refine (H16.out _).mono ?_; rintro r v2 ⟨rfl, b2⟩; have F2' := Holds.later (by first | exact F1 | exact F1.alloc _) b2; have yy2 : Hid (Below w.heap.size w v2) := below_from (by first | exact yy1.out | exact yy1.out.alloc yy1.out.size _) b2 (by have := yy1.out.size; simp; omega); try (have nb2 := keep2 b2 (x := .int .u64 0) (y := .int .u64 0) (ty := 29) (by first | exact new0 | assumption); obtain ⟨nh2, nc2, nd2, ne2, nf2, -, -⟩ := nb2)))
    all_goals (go_wp2_with fail; go_meet)
    all_goals first
      | exact ⟨_, rfl, rfl, F2'.new _ _ _, yy2.out.alloc yy2.out.size _⟩
      | exact ⟨_, rfl, rfl, F2'.set2 nh2 (by assumption) _ _, (yy2.out.setCell (by first | exact yy1.out.size | exact yy0.out.size | exact y2.out.size) _).setCell (by first | exact yy1.out.size | exact yy0.out.size | exact y2.out.size) _⟩
  obtain ⟨g2, rfl, rfl, F3, y3⟩ := hcut
  clear F2 y2 H16
  obtain ⟨k0, k1, -, -⟩ := two_cells (F3 _ (List.mem_cons_of_mem _ (List.mem_cons_of_mem _ (List.mem_cons_self ..))))
  obtain ⟨k2, k3, -, -⟩ := two_cells (F3 _ (List.mem_cons_of_mem _ (List.mem_cons_of_mem _ (List.mem_cons_of_mem _ (List.mem_cons_self ..)))))
  simp only [] at k0 k1 k2 k3
  go_upto_region 6 with (go_at_call 17; refine (H17.out _).mono ?_; rintro r w4 ⟨rfl, b2⟩)
  have F4 := (F3.later b2).new (.int .u64 z) (.int .u64 u) 24
  have y4 : Hid (Below w.heap.size w (w4.alloc (.cells #[.int .u64 z, .int .u64 u] 24))) := (below_from y3.out b2 y3.out.size).alloc (below_from y3.out b2 y3.out.size).size _
  clear b2 F3 y3 k0 k1 k2 k3 H17
  generalize w4.alloc (.cells #[.int .u64 z, .int .u64 u] 24) = W4 at *
  generalize w4.heap.size = g3 at *
  go_cut [11, 12] from 39 to 46 (fun v7 v8 wx => ∃ gn, v7 = .pointer (some ⟨gn, 0, none⟩) ∧ v8 = .int .i64 g ∧ Holds wx ((gn, .int .u64 z, .int .u64 u, 29) :: [(g3, .int .u64 z, .int .u64 u, 24), (g2, .int .u64 x, .int .u64 y, 29), (g1, .int .u64 x, .int .u64 y, 24), (w.heap.size, .int .u64 a, .int .u64 b, 24), (w.heap.size + 1, .int .u64 c, .int .u64 d, 24)]) ∧ Hid (Below w.heap.size w wx))
  case first =>
    obtain ⟨k0, k1, -, -⟩ := two_cells (F4 _ (List.mem_cons_of_mem _ (List.mem_cons_of_mem _ (List.mem_cons_of_mem _ (List.mem_cons_self ..)))))
    obtain ⟨k2, k3, -, -⟩ := two_cells (F4 _ (List.mem_cons_of_mem _ (List.mem_cons_of_mem _ (List.mem_cons_of_mem _ (List.mem_cons_of_mem _ (List.mem_cons_self ..))))))
    simp only [] at k0 k1 k2 k3
    have lt0 := F4.lt
    clear S1 S2 S3
    go_region_held3 (fun w' : World => w'.cell? ⟨w.heap.size, 0, none⟩ = some (.int .u64 a) ∧ w'.cell? ⟨w.heap.size, 1, none⟩ = some (.int .u64 b) ∧ w'.cell? ⟨w.heap.size + 1, 0, none⟩ = some (.int .u64 c) ∧ w'.cell? ⟨w.heap.size + 1, 1, none⟩ = some (.int .u64 d)) (repeat' (first | (with_reducible assumption) | (with_reducible refine keep4c (by assumption) ?_) | exact keep4o (by assumption) | exact keepHo (by assumption) (List.mem_cons_of_mem _ (List.mem_cons_of_mem _ (List.mem_cons_of_mem _ (List.mem_cons_self ..)))) (List.mem_cons_of_mem _ (List.mem_cons_of_mem _ (List.mem_cons_of_mem _ (List.mem_cons_of_mem _ (List.mem_cons_self ..))))) | exact keepHs (by assumption) (by assumption) (List.mem_cons_of_mem _ (List.mem_cons_of_mem _ (List.mem_cons_of_mem _ (List.mem_cons_self ..)))) (List.mem_cons_of_mem _ (List.mem_cons_of_mem _ (List.mem_cons_of_mem _ (List.mem_cons_of_mem _ (List.mem_cons_self ..))))) | go_keep))
      (first
        | (go_at_call_of 13 (Value.int .u64 a); refine (P1.out _).mono ?_; rintro r v0 ⟨rfl, b0⟩; have F0 := Holds.later (by first | exact F4.drew | exact F4.drew.alloc _) b0; have yy0 : Hid (Below w.heap.size w v0) := below_from (by first | exact y4.out.drew | exact y4.out.drew.alloc y4.out.size _) b0 (by have := y4.out.size; simp; omega); have lt1 := F0.lt; try (have nb0 := keep2 b0 (x := .int .u64 0) (y := .int .u64 0) (ty := 29) new0; obtain ⟨nh0, nc0, nd0, ne0, nf0, -, -⟩ := nb0))
        | (go_at_call_of 13 (Value.int .u64 c); refine (P2.out _).mono ?_; rintro r v1 ⟨rfl, b1⟩; have F1 := Holds.later (by first | exact F0 | exact F0.alloc _) b1; have yy1 : Hid (Below w.heap.size w v1) := below_from (by first | exact yy0.out | exact yy0.out.alloc yy0.out.size _) b1 (by have := yy0.out.size; simp; omega); have lt2 := F1.lt; try (have nb1 := keep2 b1 (x := .int .u64 0) (y := .int .u64 0) (ty := 29) (by first | exact new0 | assumption); obtain ⟨nh1, nc1, nd1, ne1, nf1, -, -⟩ := nb1))
        | (go_at_call 18; refine (H18.out _).mono ?_; rintro r v2 ⟨rfl, b2⟩; have F2' := Holds.later (by first | exact F1 | exact F1.alloc _) b2; have yy2 : Hid (Below w.heap.size w v2) := below_from (by first | exact yy1.out | exact yy1.out.alloc yy1.out.size _) b2 (by have := yy1.out.size; simp; omega); try (have nb2 := keep2 b2 (x := .int .u64 0) (y := .int .u64 0) (ty := 29) (by first | exact new0 | assumption); obtain ⟨nh2, nc2, nd2, ne2, nf2, -, -⟩ := nb2)))
    all_goals (go_wp2_with fail; go_meet)
    all_goals first
      | exact ⟨_, rfl, rfl, F2'.new _ _ _, yy2.out.alloc yy2.out.size _⟩
      | exact ⟨_, rfl, rfl, F2'.set2 nh2 (by assumption) _ _, (yy2.out.setCell (by first | exact yy1.out.size | exact yy0.out.size | exact y4.out.size) _).setCell (by first | exact yy1.out.size | exact yy0.out.size | exact y4.out.size) _⟩
  obtain ⟨g4, rfl, rfl, F5, y5⟩ := hcut
  clear F4 y4 H18
  obtain ⟨k0, k1, -, -⟩ := two_cells (F5 _ (List.mem_cons_of_mem _ (List.mem_cons_of_mem _ (List.mem_cons_of_mem _ (List.mem_cons_of_mem _ (List.mem_cons_self ..))))))
  obtain ⟨k2, k3, -, -⟩ := two_cells (F5 _ (List.mem_cons_of_mem _ (List.mem_cons_of_mem _ (List.mem_cons_of_mem _ (List.mem_cons_of_mem _ (List.mem_cons_of_mem _ (List.mem_cons_self ..)))))))
  simp only [] at k0 k1 k2 k3
  go_upto_region 8 with (go_at_call 19; refine (H19.out _).mono ?_; rintro r w6 ⟨rfl, b2⟩)
  have F6 := (F5.later b2).new (.int .u64 p) (.int .u64 q) 24
  have y6 : Hid (Below w.heap.size w (w6.alloc (.cells #[.int .u64 p, .int .u64 q] 24))) := (below_from y5.out b2 y5.out.size).alloc (below_from y5.out b2 y5.out.size).size _
  clear b2 F5 y5 k0 k1 k2 k3 H19
  generalize w6.alloc (.cells #[.int .u64 p, .int .u64 q] 24) = W6 at *
  generalize w6.heap.size = g5 at *
  go_cut [15, 16] from 53 to 60 (fun v7 v8 wx => ∃ gn, v7 = .pointer (some ⟨gn, 0, none⟩) ∧ v8 = .int .i64 i ∧ Holds wx ((gn, .int .u64 p, .int .u64 q, 29) :: [(g5, .int .u64 p, .int .u64 q, 24), (g4, .int .u64 z, .int .u64 u, 29), (g3, .int .u64 z, .int .u64 u, 24), (g2, .int .u64 x, .int .u64 y, 29), (g1, .int .u64 x, .int .u64 y, 24), (w.heap.size, .int .u64 a, .int .u64 b, 24), (w.heap.size + 1, .int .u64 c, .int .u64 d, 24)]) ∧ Hid (Below w.heap.size w wx))
  case first =>
    obtain ⟨k0, k1, -, -⟩ := two_cells (F6 _ (List.mem_cons_of_mem _ (List.mem_cons_of_mem _ (List.mem_cons_of_mem _ (List.mem_cons_of_mem _ (List.mem_cons_of_mem _ (List.mem_cons_self ..)))))))
    obtain ⟨k2, k3, -, -⟩ := two_cells (F6 _ (List.mem_cons_of_mem _ (List.mem_cons_of_mem _ (List.mem_cons_of_mem _ (List.mem_cons_of_mem _ (List.mem_cons_of_mem _ (List.mem_cons_of_mem _ (List.mem_cons_self ..))))))))
    simp only [] at k0 k1 k2 k3
    have lt0 := F6.lt
    clear S1 S2 S3
    go_region_held3 (fun w' : World => w'.cell? ⟨w.heap.size, 0, none⟩ = some (.int .u64 a) ∧ w'.cell? ⟨w.heap.size, 1, none⟩ = some (.int .u64 b) ∧ w'.cell? ⟨w.heap.size + 1, 0, none⟩ = some (.int .u64 c) ∧ w'.cell? ⟨w.heap.size + 1, 1, none⟩ = some (.int .u64 d)) (repeat' (first | (with_reducible assumption) | (with_reducible refine keep4c (by assumption) ?_) | exact keep4o (by assumption) | exact keepHo (by assumption) (List.mem_cons_of_mem _ (List.mem_cons_of_mem _ (List.mem_cons_of_mem _ (List.mem_cons_of_mem _ (List.mem_cons_of_mem _ (List.mem_cons_self ..)))))) (List.mem_cons_of_mem _ (List.mem_cons_of_mem _ (List.mem_cons_of_mem _ (List.mem_cons_of_mem _ (List.mem_cons_of_mem _ (List.mem_cons_of_mem _ (List.mem_cons_self ..))))))) | exact keepHs (by assumption) (by assumption) (List.mem_cons_of_mem _ (List.mem_cons_of_mem _ (List.mem_cons_of_mem _ (List.mem_cons_of_mem _ (List.mem_cons_of_mem _ (List.mem_cons_self ..)))))) (List.mem_cons_of_mem _ (List.mem_cons_of_mem _ (List.mem_cons_of_mem _ (List.mem_cons_of_mem _ (List.mem_cons_of_mem _ (List.mem_cons_of_mem _ (List.mem_cons_self ..))))))) | go_keep))
      (first
        | (go_at_call_of 13 (Value.int .u64 a); refine (P1.out _).mono ?_; rintro r v0 ⟨rfl, b0⟩; have F0 := Holds.later (by first | exact F6.drew | exact F6.drew.alloc _) b0; have yy0 : Hid (Below w.heap.size w v0) := below_from (by first | exact y6.out.drew | exact y6.out.drew.alloc y6.out.size _) b0 (by have := y6.out.size; simp; omega); have lt1 := F0.lt; try (have nb0 := keep2 b0 (x := .int .u64 0) (y := .int .u64 0) (ty := 29) new0; obtain ⟨nh0, nc0, nd0, ne0, nf0, -, -⟩ := nb0))
        | (go_at_call_of 13 (Value.int .u64 c); refine (P2.out _).mono ?_; rintro r v1 ⟨rfl, b1⟩; have F1 := Holds.later (by first | exact F0 | exact F0.alloc _) b1; have yy1 : Hid (Below w.heap.size w v1) := below_from (by first | exact yy0.out | exact yy0.out.alloc yy0.out.size _) b1 (by have := yy0.out.size; simp; omega); have lt2 := F1.lt; try (have nb1 := keep2 b1 (x := .int .u64 0) (y := .int .u64 0) (ty := 29) (by first | exact new0 | assumption); obtain ⟨nh1, nc1, nd1, ne1, nf1, -, -⟩ := nb1))
        | (go_at_call 20; refine (H20.out _).mono ?_; rintro r v2 ⟨rfl, b2⟩; have F2' := Holds.later (by first | exact F1 | exact F1.alloc _) b2; have yy2 : Hid (Below w.heap.size w v2) := below_from (by first | exact yy1.out | exact yy1.out.alloc yy1.out.size _) b2 (by have := yy1.out.size; simp; omega); try (have nb2 := keep2 b2 (x := .int .u64 0) (y := .int .u64 0) (ty := 29) (by first | exact new0 | assumption); obtain ⟨nh2, nc2, nd2, ne2, nf2, -, -⟩ := nb2)))
    all_goals (go_wp2_with fail; go_meet)
    all_goals first
      | exact ⟨_, rfl, rfl, F2'.new _ _ _, yy2.out.alloc yy2.out.size _⟩
      | exact ⟨_, rfl, rfl, F2'.set2 nh2 (by assumption) _ _, (yy2.out.setCell (by first | exact yy1.out.size | exact yy0.out.size | exact y6.out.size) _).setCell (by first | exact yy1.out.size | exact yy0.out.size | exact y6.out.size) _⟩
  obtain ⟨g6, rfl, rfl, F7, y7⟩ := hcut
  clear F6 y6 H20
  obtain ⟨k0, k1, -, -⟩ := two_cells (F7 _ (List.mem_cons_of_mem _ (List.mem_cons_of_mem _ (List.mem_cons_of_mem _ (List.mem_cons_of_mem _ (List.mem_cons_of_mem _ (List.mem_cons_self ..)))))))
  obtain ⟨k2, k3, -, -⟩ := two_cells (F7 _ (List.mem_cons_of_mem _ (List.mem_cons_of_mem _ (List.mem_cons_of_mem _ (List.mem_cons_of_mem _ (List.mem_cons_self ..))))))
  simp only [] at k0 k1 k2 k3
  go_wp2_with fail
  refine (S1.out _).mono ?_
  rintro r w8 ⟨rfl, b8⟩
  have F8 := F7.later b8
  have y8 : Hid (Below w.heap.size w w8) := below_from y7.out b8 y7.out.size
  clear b8 F7 y7 k0 k1 k2 k3 S1
  obtain ⟨k0, k1, -, -⟩ := two_cells (F8 _ (List.mem_cons_of_mem _ (List.mem_cons_of_mem _ (List.mem_cons_of_mem _ (List.mem_cons_self ..)))))
  obtain ⟨k2, k3, -, -⟩ := two_cells (F8 _ (List.mem_cons_of_mem _ (List.mem_cons_of_mem _ (List.mem_cons_self ..))))
  simp only [] at k0 k1 k2 k3
  go_wp2_with fail
  refine (S2.out _).mono ?_
  rintro r w9 ⟨rfl, b9⟩
  have F9 := F8.later b9
  have y9 : Hid (Below w.heap.size w w9) := below_from y8.out b9 y8.out.size
  clear b9 F8 y8 k0 k1 k2 k3 S2
  obtain ⟨k0, k1, -, -⟩ := two_cells (F9 _ (List.mem_cons_of_mem _ (List.mem_cons_self ..)))
  obtain ⟨k2, k3, -, -⟩ := two_cells (F9 _ (List.mem_cons_self ..))
  simp only [] at k0 k1 k2 k3
  go_wp2_with fail
  refine (S3.out _).mono ?_
  rintro r w10 ⟨rfl, b10⟩
  go_wp2_with fail
  go_ret
  exact ⟨rfl, below_from y9.out b10 y9.out.size⟩

theorem law_reckons (a b c d : Nat) (w : World) (ha : a < 18446744073709551616) (hb : b < 18446744073709551616) (hc : c < 18446744073709551616) (hd : d < 18446744073709551616) :
    Calls Try.prog 4 #[.agg #[.int .u64 a, .int .u64 b], .agg #[.int .u64 c, .int .u64 d]] w fun r w' => r = .returned (.bool true) ∧ Below w.heap.size w w' :=
  reckons_at a b c d _ _ _ _ _ _ _ _ _ w (fun w => add_any a b c d w ha hb hc hd) (fun w => radd_any a b c d w ha hb hc hd) (fun w => sub_any a b c d w ha hb hc hd) (fun w => rsub_any a b c d w ha hb hc hd) (fun w => mul_any a b c d w ha hb hc hd) (fun w => rmul_any a b c d w ha hb hc hd) (fun w => plain_any a b w) (fun w => plain_any c d w)
    (fun w => same_any _ _ _ w (fun w => plain_any _ _ w)) (fun w => same_any _ _ _ w (fun w => plain_any _ _ w)) (fun w => same_any _ _ _ w (fun w => plain_any _ _ w))

end Go.Proofs.Ytfcegoibelokpaa
