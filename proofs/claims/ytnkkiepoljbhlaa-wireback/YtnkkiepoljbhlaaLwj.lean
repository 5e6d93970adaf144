/-
  WireJobs: the law out of the contracts.
-/
import Derived.Test.YtnkkiepoljbhlaaSjb
import Derived.Test.YtnkkiepoljbhlaaAwk
namespace Go.Proofs.Ytnkkiepoljbhlaa
open Go.RowKit

theorem c27 {w : World} {g : Nat} {v0 v1 v2 v3 v4 v5 v6 v7 v8 v9 v10 v11 v12 v13 v14 v15 v16 v17 v18 v19 v20 v21 v22 v23 v24 v25 v26 : Value} {ty : TypeId} (h : w.heap[g]? = some (.cells #[v0, v1, v2, v3, v4, v5, v6, v7, v8, v9, v10, v11, v12, v13, v14, v15, v16, v17, v18, v19, v20, v21, v22, v23, v24, v25, v26] ty)) :
    w.cell? ⟨g, 0, none⟩ = some v0 ∧ w.cell? ⟨g, 13, none⟩ = some v13 ∧ w.cell? ⟨g, 14, none⟩ = some v14 ∧ w.cell? ⟨g, 15, none⟩ = some v15 ∧ w.cell? ⟨g, 16, none⟩ = some v16 ∧ w.cell? ⟨g, 17, none⟩ = some v17 ∧ w.cell? ⟨g, 18, none⟩ = some v18 ∧ w.cell? ⟨g, 19, none⟩ = some v19 ∧ w.cell? ⟨g, 20, none⟩ = some v20 ∧ w.cell? ⟨g, 21, none⟩ = some v21 ∧ w.cell? ⟨g, 22, none⟩ = some v22 ∧ w.cell? ⟨g, 23, none⟩ = some v23 :=
  ⟨Lib.cell_of_heap h 0, Lib.cell_of_heap h 13, Lib.cell_of_heap h 14, Lib.cell_of_heap h 15, Lib.cell_of_heap h 16, Lib.cell_of_heap h 17, Lib.cell_of_heap h 18, Lib.cell_of_heap h 19, Lib.cell_of_heap h 20, Lib.cell_of_heap h 21, Lib.cell_of_heap h 22, Lib.cell_of_heap h 23⟩

set_option maxHeartbeats 2000000 in
set_option maxRecDepth 100000 in
theorem law_yes (p : PL) (w : World) (hk : p.kind = 5) (Pp : JB → World → Prop) (hPs : Hid (∀ i W o c, Pp i W → Pp i ((W.alloc o).setRow W.heap.size c)))
    (HM : Hid (∀ W, Calls Try.prog 8 #[.agg p.cells] W fun e w' => e = .returned (p.rcd 5) ∧ Below W.heap.size W w'))
    (HJ : Hid (∀ W, Below w.heap.size w W → Calls Try.prog 18 #[p.rcd 5] W fun e w' => ∃ i : JB, e = .returned (.tuple #[.agg i.cells, .bool true]) ∧ Pp i w' ∧ Below W.heap.size W w'))
    (HS : Hid (∀ W i, Below w.heap.size w W → Pp i W → Calls Try.prog 19 #[.agg i.cells, .agg p.jb.cells] W fun e w' => e = .returned (.bool true) ∧ Below W.heap.size W w')) :
    Calls Try.prog 6 #[.agg p.cells] w fun e w' => e = .returned (.bool true) ∧ Below w.heap.size w w' := by
  have hc : p.cells = #[.int .i64 5, .string p.tn, .int .i64 p.tw, .int .i64 p.q0, .int .i64 p.q1, .int .i64 p.q2, .int .i64 p.q3, .string p.nd, .int .i64 p.ep, .int .i64 p.v0, .int .i64 p.v1, .int .i64 p.v2, .int .i64 p.v3, .int .i64 p.jb.id, .string p.jb.tn, .int .i64 p.jb.pr, .int .i64 p.jb.rt, .slice p.jb.pa.a p.jb.pa.n p.jb.pa.c, .slice p.jb.tk.a p.jb.tk.n p.jb.tk.c, .int .i64 p.jb.st, .int .i64 p.jb.at', .slice p.jb.nd.a p.jb.nd.n p.jb.nd.c, .int .i64 p.jb.sr, .slice p.jb.dn.a p.jb.dn.n p.jb.dn.c, .int .i64 p.id, .slice p.ns.a p.ns.n p.ns.c, .int .i64 p.st] := by unfold PL.cells; rw [hk]; rfl
  have SZ : Hid ((Try.prog.info? 32).map (·.size) = some p.cells.size) := size32
  generalize p.rcd 5 = R at *
  rw [hc] at HM SZ ⊢
  go_enter Try.func6, Try.ntmps6
  go_upto_region 1 with fail
  have P1 : Hid _ := new0 (w := w) (o := .cells #[.int .i64 5, .string p.tn, .int .i64 p.tw, .int .i64 p.q0, .int .i64 p.q1, .int .i64 p.q2, .int .i64 p.q3, .string p.nd, .int .i64 p.ep, .int .i64 p.v0, .int .i64 p.v1, .int .i64 p.v2, .int .i64 p.v3, .int .i64 p.jb.id, .string p.jb.tn, .int .i64 p.jb.pr, .int .i64 p.jb.rt, .slice p.jb.pa.a p.jb.pa.n p.jb.pa.c, .slice p.jb.tk.a p.jb.tk.n p.jb.tk.c, .int .i64 p.jb.st, .int .i64 p.jb.at', .slice p.jb.nd.a p.jb.nd.n p.jb.nd.c, .int .i64 p.jb.sr, .slice p.jb.dn.a p.jb.dn.n p.jb.dn.c, .int .i64 p.id, .slice p.ns.a p.ns.n p.ns.c, .int .i64 p.st] 32)
  have y1 : Hid (Below w.heap.size w (w.alloc (.cells #[.int .i64 5, .string p.tn, .int .i64 p.tw, .int .i64 p.q0, .int .i64 p.q1, .int .i64 p.q2, .int .i64 p.q3, .string p.nd, .int .i64 p.ep, .int .i64 p.v0, .int .i64 p.v1, .int .i64 p.v2, .int .i64 p.v3, .int .i64 p.jb.id, .string p.jb.tn, .int .i64 p.jb.pr, .int .i64 p.jb.rt, .slice p.jb.pa.a p.jb.pa.n p.jb.pa.c, .slice p.jb.tk.a p.jb.tk.n p.jb.tk.c, .int .i64 p.jb.st, .int .i64 p.jb.at', .slice p.jb.nd.a p.jb.nd.n p.jb.nd.c, .int .i64 p.jb.sr, .slice p.jb.dn.a p.jb.dn.n p.jb.dn.c, .int .i64 p.id, .slice p.ns.a p.ns.n p.ns.c, .int .i64 p.st] 32))) := (Below.refl _ w).alloc (Nat.le_refl _) _
  generalize w.alloc (.cells #[.int .i64 5, .string p.tn, .int .i64 p.tw, .int .i64 p.q0, .int .i64 p.q1, .int .i64 p.q2, .int .i64 p.q3, .string p.nd, .int .i64 p.ep, .int .i64 p.v0, .int .i64 p.v1, .int .i64 p.v2, .int .i64 p.v3, .int .i64 p.jb.id, .string p.jb.tn, .int .i64 p.jb.pr, .int .i64 p.jb.rt, .slice p.jb.pa.a p.jb.pa.n p.jb.pa.c, .slice p.jb.tk.a p.jb.tk.n p.jb.tk.c, .int .i64 p.jb.st, .int .i64 p.jb.at', .slice p.jb.nd.a p.jb.nd.n p.jb.nd.c, .int .i64 p.jb.sr, .slice p.jb.dn.a p.jb.dn.n p.jb.dn.c, .int .i64 p.id, .slice p.ns.a p.ns.n p.ns.c, .int .i64 p.st] 32) = W1 at *
  go_upto_region 3 with (go_at_call 7; refine (awake_any _).mono ?_; rintro e w1 ⟨rfl, b1⟩)
  have P2 : Hid _ := at_below b1 (Nat.le_refl _) P1.out
  have y2 : Hid _ := below_from y1.out b1 y1.out.size
  iterate 1 go_step
  refine wpList_load_row rfl 32 _ rfl w.heap.size rfl 32 _ (0, 0) _ P2.out Try.underlying32 rfl SZ.out ?_
  go_wp2_with (go_at_call 8; refine (HM.out _).mono ?_)
  rintro e w2 ⟨rfl, b2⟩
  have P3 : Hid _ := at_below b2 (Nat.le_refl _) P2.out
  have y3 : Hid _ := below_from y2.out b2 y2.out.size
  clear b1 b2 P1 P2 y1 y2
  go_wp2_with (go_at_call 18; refine (HJ.out _ y3.out).mono ?_)
  rintro e w3 ⟨i, rfl, hi, b3⟩
  have P4 : Hid _ := at_below b3 (Nat.le_refl _) P3.out
  have y4 : Hid _ := below_from y3.out b3 y3.out.size
  have HI : Hid _ := hi
  clear hi b3 P3 y3
  have JS : Hid (i.cells.size = 11) := rfl
  have JA : Hid (i.cells.all (·.oneCell') = true) := job_all i
  have JI3 : Hid ((Try.prog.info? 30).map (·.size) = some i.cells.size) := jsize30
  have hJ : Hid (i.cells = #[.int .i64 i.id, .string i.tn, .int .i64 i.pr, .int .i64 i.rt, .slice i.pa.a i.pa.n i.pa.c, .slice i.tk.a i.tk.n i.tk.c, .int .i64 i.st, .int .i64 i.at', .slice i.nd.a i.nd.n i.nd.c, .int .i64 i.sr, .slice i.dn.a i.dn.n i.dn.c]) := rfl
  dsimp only
  iterate 13 go_step
  have hlt : w.heap.size < w3.heap.size := (Array.getElem?_eq_some_iff.1 P4.out).1
  refine wpList_store_row rfl 30 _ _ rfl w3.heap.size i.cells rfl rfl 30 _ new0 JI3.out JS.out.symm JA.out ?_
  have P5 : Hid _ := (setRow_other (w3.alloc (.cells #[.int .i64 0, .string ⟨#[]⟩, .int .i64 0, .int .i64 0, .slice none 0 0, .slice none 0 0, .int .i64 0, .int .i64 0, .slice none 0 0, .int .i64 0, .slice none 0 0] 30)) w3.heap.size w.heap.size i.cells (by omega)).trans (at_alloc (o := .cells #[.int .i64 0, .string ⟨#[]⟩, .int .i64 0, .int .i64 0, .slice none 0 0, .slice none 0 0, .int .i64 0, .int .i64 0, .slice none 0 0, .int .i64 0, .slice none 0 0] 30) P4.out)
  have G5 : Hid _ := set_row (c' := i.cells) (new0 (w := w3) (o := .cells #[.int .i64 0, .string ⟨#[]⟩, .int .i64 0, .int .i64 0, .slice none 0 0, .slice none 0 0, .int .i64 0, .int .i64 0, .slice none 0 0, .int .i64 0, .slice none 0 0] 30))
  have y5 : Hid (Below w.heap.size w ((w3.alloc (.cells #[.int .i64 0, .string ⟨#[]⟩, .int .i64 0, .int .i64 0, .slice none 0 0, .slice none 0 0, .int .i64 0, .int .i64 0, .slice none 0 0, .int .i64 0, .slice none 0 0] 30)).setRow w3.heap.size i.cells)) := below_setRow (y4.out.alloc (Nat.le_of_lt hlt) _) (Nat.le_of_lt hlt)
  have I5 : Hid _ := hPs.out i w3 (.cells #[.int .i64 0, .string ⟨#[]⟩, .int .i64 0, .int .i64 0, .slice none 0 0, .slice none 0 0, .int .i64 0, .int .i64 0, .slice none 0 0, .int .i64 0, .slice none 0 0] 30) i.cells HI.out
  generalize (w3.alloc (.cells #[.int .i64 0, .string ⟨#[]⟩, .int .i64 0, .int .i64 0, .slice none 0 0, .slice none 0 0, .int .i64 0, .int .i64 0, .slice none 0 0, .int .i64 0, .slice none 0 0] 30)).setRow w3.heap.size i.cells = W5 at *
  clear P4 y4 HI JI3 JA JS
  obtain ⟨e0, e13, e14, e15, e16, e17, e18, e19, e20, e21, e22, e23⟩ := c27 P5.out
  have G6 := G5.out
  rw [hJ.out] at G6
  obtain ⟨g0, g1, g2, g3, g4, g5, g6, g7, g8, g9, g10⟩ := c11a G6
  clear G6 G5
  go_upto_region 6 with fail
  go_wp2_with (go_at_call 19; refine (HS.out _ i y5.out I5.out).mono ?_)
  rintro e w6 ⟨rfl, b6⟩
  go_wp2_with fail
  go_ret
  exact ⟨rfl, below_from y5.out b6 y5.out.size⟩

set_option maxHeartbeats 2000000 in
set_option maxRecDepth 100000 in
theorem law_no (p : PL) (w : World) (R : Value) (hk : (p.kind != 5) = true)
    (HM : Hid (∀ W, Calls Try.prog 8 #[.agg p.cells] W fun e w' => e = .returned R ∧ Below W.heap.size W w'))
    (HJ : Hid (∀ W, Below w.heap.size w W → Calls Try.prog 18 #[R] W fun e w' => e = .returned (.tuple #[.agg JB.zero.cells, .bool false]) ∧ Below W.heap.size W w'))
    (HS : Hid (∀ W, Below w.heap.size w W → Calls Try.prog 19 #[.agg JB.zero.cells, .agg JB.zero.cells] W fun e w' => e = .returned (.bool true) ∧ Below W.heap.size W w')) :
    Calls Try.prog 6 #[.agg p.cells] w fun e w' => e = .returned (.bool true) ∧ Below w.heap.size w w' := by
  have hc : p.cells = #[.int .i64 p.kind, .string p.tn, .int .i64 p.tw, .int .i64 p.q0, .int .i64 p.q1, .int .i64 p.q2, .int .i64 p.q3, .string p.nd, .int .i64 p.ep, .int .i64 p.v0, .int .i64 p.v1, .int .i64 p.v2, .int .i64 p.v3, .int .i64 p.jb.id, .string p.jb.tn, .int .i64 p.jb.pr, .int .i64 p.jb.rt, .slice p.jb.pa.a p.jb.pa.n p.jb.pa.c, .slice p.jb.tk.a p.jb.tk.n p.jb.tk.c, .int .i64 p.jb.st, .int .i64 p.jb.at', .slice p.jb.nd.a p.jb.nd.n p.jb.nd.c, .int .i64 p.jb.sr, .slice p.jb.dn.a p.jb.dn.n p.jb.dn.c, .int .i64 p.id, .slice p.ns.a p.ns.n p.ns.c, .int .i64 p.st] := rfl
  have SZ : Hid ((Try.prog.info? 32).map (·.size) = some p.cells.size) := size32
  rw [hc] at HM SZ ⊢
  go_enter Try.func6, Try.ntmps6
  go_upto_region 1 with fail
  have P1 : Hid _ := new0 (w := w) (o := .cells #[.int .i64 p.kind, .string p.tn, .int .i64 p.tw, .int .i64 p.q0, .int .i64 p.q1, .int .i64 p.q2, .int .i64 p.q3, .string p.nd, .int .i64 p.ep, .int .i64 p.v0, .int .i64 p.v1, .int .i64 p.v2, .int .i64 p.v3, .int .i64 p.jb.id, .string p.jb.tn, .int .i64 p.jb.pr, .int .i64 p.jb.rt, .slice p.jb.pa.a p.jb.pa.n p.jb.pa.c, .slice p.jb.tk.a p.jb.tk.n p.jb.tk.c, .int .i64 p.jb.st, .int .i64 p.jb.at', .slice p.jb.nd.a p.jb.nd.n p.jb.nd.c, .int .i64 p.jb.sr, .slice p.jb.dn.a p.jb.dn.n p.jb.dn.c, .int .i64 p.id, .slice p.ns.a p.ns.n p.ns.c, .int .i64 p.st] 32)
  have y1 : Hid (Below w.heap.size w (w.alloc (.cells #[.int .i64 p.kind, .string p.tn, .int .i64 p.tw, .int .i64 p.q0, .int .i64 p.q1, .int .i64 p.q2, .int .i64 p.q3, .string p.nd, .int .i64 p.ep, .int .i64 p.v0, .int .i64 p.v1, .int .i64 p.v2, .int .i64 p.v3, .int .i64 p.jb.id, .string p.jb.tn, .int .i64 p.jb.pr, .int .i64 p.jb.rt, .slice p.jb.pa.a p.jb.pa.n p.jb.pa.c, .slice p.jb.tk.a p.jb.tk.n p.jb.tk.c, .int .i64 p.jb.st, .int .i64 p.jb.at', .slice p.jb.nd.a p.jb.nd.n p.jb.nd.c, .int .i64 p.jb.sr, .slice p.jb.dn.a p.jb.dn.n p.jb.dn.c, .int .i64 p.id, .slice p.ns.a p.ns.n p.ns.c, .int .i64 p.st] 32))) := (Below.refl _ w).alloc (Nat.le_refl _) _
  generalize w.alloc (.cells #[.int .i64 p.kind, .string p.tn, .int .i64 p.tw, .int .i64 p.q0, .int .i64 p.q1, .int .i64 p.q2, .int .i64 p.q3, .string p.nd, .int .i64 p.ep, .int .i64 p.v0, .int .i64 p.v1, .int .i64 p.v2, .int .i64 p.v3, .int .i64 p.jb.id, .string p.jb.tn, .int .i64 p.jb.pr, .int .i64 p.jb.rt, .slice p.jb.pa.a p.jb.pa.n p.jb.pa.c, .slice p.jb.tk.a p.jb.tk.n p.jb.tk.c, .int .i64 p.jb.st, .int .i64 p.jb.at', .slice p.jb.nd.a p.jb.nd.n p.jb.nd.c, .int .i64 p.jb.sr, .slice p.jb.dn.a p.jb.dn.n p.jb.dn.c, .int .i64 p.id, .slice p.ns.a p.ns.n p.ns.c, .int .i64 p.st] 32) = W1 at *
  go_upto_region 3 with (go_at_call 7; refine (awake_any _).mono ?_; rintro e w1 ⟨rfl, b1⟩)
  have P2 : Hid _ := at_below b1 (Nat.le_refl _) P1.out
  have y2 : Hid _ := below_from y1.out b1 y1.out.size
  iterate 1 go_step
  refine wpList_load_row rfl 32 _ rfl w.heap.size rfl 32 _ (0, 0) _ P2.out Try.underlying32 rfl SZ.out ?_
  go_wp2_with (go_at_call 8; refine (HM.out _).mono ?_)
  rintro e w2 ⟨rfl, b2⟩
  have P3 : Hid _ := at_below b2 (Nat.le_refl _) P2.out
  have y3 : Hid _ := below_from y2.out b2 y2.out.size
  clear b1 b2 P1 P2 y1 y2
  go_wp2_with (go_at_call 18; refine (HJ.out _ y3.out).mono ?_)
  rintro e w3 ⟨rfl, b3⟩
  generalize hZ : JB.zero = i at *
  have P4 : Hid _ := at_below b3 (Nat.le_refl _) P3.out
  have y4 : Hid _ := below_from y3.out b3 y3.out.size
  clear b3 P3 y3
  have JS : Hid (i.cells.size = 11) := rfl
  have JA : Hid (i.cells.all (·.oneCell') = true) := job_all i
  have JI3 : Hid ((Try.prog.info? 30).map (·.size) = some i.cells.size) := jsize30
  have hJ : Hid (i.cells = #[.int .i64 i.id, .string i.tn, .int .i64 i.pr, .int .i64 i.rt, .slice i.pa.a i.pa.n i.pa.c, .slice i.tk.a i.tk.n i.tk.c, .int .i64 i.st, .int .i64 i.at', .slice i.nd.a i.nd.n i.nd.c, .int .i64 i.sr, .slice i.dn.a i.dn.n i.dn.c]) := rfl
  dsimp only
  iterate 13 go_step
  have hlt : w.heap.size < w3.heap.size := (Array.getElem?_eq_some_iff.1 P4.out).1
  refine wpList_store_row rfl 30 _ _ rfl w3.heap.size i.cells rfl rfl 30 _ new0 JI3.out JS.out.symm JA.out ?_
  have P5 : Hid _ := (setRow_other (w3.alloc (.cells #[.int .i64 0, .string ⟨#[]⟩, .int .i64 0, .int .i64 0, .slice none 0 0, .slice none 0 0, .int .i64 0, .int .i64 0, .slice none 0 0, .int .i64 0, .slice none 0 0] 30)) w3.heap.size w.heap.size i.cells (by omega)).trans (at_alloc (o := .cells #[.int .i64 0, .string ⟨#[]⟩, .int .i64 0, .int .i64 0, .slice none 0 0, .slice none 0 0, .int .i64 0, .int .i64 0, .slice none 0 0, .int .i64 0, .slice none 0 0] 30) P4.out)
  have G5 : Hid _ := set_row (c' := i.cells) (new0 (w := w3) (o := .cells #[.int .i64 0, .string ⟨#[]⟩, .int .i64 0, .int .i64 0, .slice none 0 0, .slice none 0 0, .int .i64 0, .int .i64 0, .slice none 0 0, .int .i64 0, .slice none 0 0] 30))
  have y5 : Hid (Below w.heap.size w ((w3.alloc (.cells #[.int .i64 0, .string ⟨#[]⟩, .int .i64 0, .int .i64 0, .slice none 0 0, .slice none 0 0, .int .i64 0, .int .i64 0, .slice none 0 0, .int .i64 0, .slice none 0 0] 30)).setRow w3.heap.size i.cells)) := below_setRow (y4.out.alloc (Nat.le_of_lt hlt) _) (Nat.le_of_lt hlt)
  generalize (w3.alloc (.cells #[.int .i64 0, .string ⟨#[]⟩, .int .i64 0, .int .i64 0, .slice none 0 0, .slice none 0 0, .int .i64 0, .int .i64 0, .slice none 0 0, .int .i64 0, .slice none 0 0] 30)).setRow w3.heap.size i.cells = W5 at *
  clear P4 y4 JI3 JA JS
  obtain ⟨e0, e13, e14, e15, e16, e17, e18, e19, e20, e21, e22, e23⟩ := c27 P5.out
  have G6 := G5.out
  rw [hJ.out] at G6
  obtain ⟨g0, g1, g2, g3, g4, g5, g6, g7, g8, g9, g10⟩ := c11a G6
  clear G6 G5
  subst hZ
  go_upto_region 5 with fail
  go_wp2_with (go_at_call 19; refine (HS.out _ y5.out).mono ?_)
  rintro e w6 ⟨rfl, b6⟩
  go_wp2_with fail
  go_ret
  exact ⟨rfl, below_from y5.out b6 y5.out.size⟩

theorem zero_has (w : World) : JB.zero.has w .nil := ⟨⟨.inl rfl, rfl, fun _ => ⟨rfl, rfl, rfl⟩⟩, ⟨.inl rfl, rfl, fun _ => ⟨rfl, rfl, rfl⟩⟩, ⟨.inl rfl, rfl, fun _ => ⟨rfl, rfl, rfl⟩⟩, ⟨.inl rfl, rfl, fun _ => ⟨rfl, rfl, rfl⟩⟩⟩
theorem zero_fits : Fits .zero .nil := ⟨by decide, by decide, by decide, by decide, by decide, (fun _ h => by cases h), (fun _ h => by cases h)⟩
theorem law_other (p : PL) (R : Value) (w : World) (hk : (p.kind != 5) = true)
    (HM : ∀ W, Calls Try.prog 8 #[.agg p.cells] W fun e w' => e = .returned R ∧ Below W.heap.size W w')
    (HR : ∀ W, Calls Try.prog 20 #[R] W fun e w' => e = .returned R ∧ Below W.heap.size W w')
    (ha : ∀ w, (Instr.typeAssert R 35 66 true).run Try.prog w = .ok (.tuple #[.agg #[.int .i64 0, .string ⟨#[]⟩, .int .i64 0, .int .i64 0, .slice none 0 0, .slice none 0 0, .int .i64 0, .int .i64 0, .slice none 0 0, .int .i64 0, .slice none 0 0], .bool false]) w) :
    Calls Try.prog 6 #[.agg p.cells] w fun e w' => e = .returned (.bool true) ∧ Below w.heap.size w w' := by
  refine law_no p w R hk HM (fun W _ => ?_) (fun W _ => sameJob .zero .zero .nil W (zero_has W) (zero_has W) ⟨rfl, rfl, rfl, rfl, rfl, rfl, rfl⟩ zero_fits)
  refine (job_at R R false W (fun i _ _ => i = .zero) (fun _ _ _ _ _ h _ => h) (fun _ _ _ _ h _ => h) HR (fun W' _ => ?_)).mono fun e w' ⟨i, he, hi, hb⟩ => ⟨by rw [he, hi], hb⟩
  exact (submitted_no R W' ha).mono fun e w' ⟨he, hb⟩ => ⟨.zero, he, rfl, hb⟩
theorem remade_is (p : PL) (k : Nat) (H1 : ∀ w, Calls Try.prog 9 #[p.rcd k] w fun e w' => e = .returned (.agg (p.norm k).cells) ∧ Below w.heap.size w w') (H2 : ∀ w, Calls Try.prog 8 #[.agg (p.norm k).cells] w fun e w' => e = .returned (p.rcd k) ∧ Below w.heap.size w w') (w : World) :
    Calls Try.prog 20 #[p.rcd k] w fun e w' => e = .returned (p.rcd k) ∧ Below w.heap.size w w' := remade_at _ _ _ w H1 H2

theorem law_jobs (p : PL) (L : JL) (w : World) (h : p.jb.has w L) (hf : Fits p.jb L) :
    Calls Try.prog 6 #[.agg p.cells] w fun e w' => e = .returned (.bool true) ∧ Below w.heap.size w w' := by
  by_cases hr : 1 ≤ p.kind ∧ p.kind ≤ 11
  · have hk : p.kind = 1 ∨ p.kind = 2 ∨ p.kind = 3 ∨ p.kind = 4 ∨ p.kind = 5 ∨ p.kind = 6 ∨ p.kind = 7 ∨ p.kind = 8 ∨ p.kind = 9 ∨ p.kind = 10 ∨ p.kind = 11 := by omega
    rcases hk with hk | hk | hk | hk | hk | hk | hk | hk | hk | hk | hk
    · exact law_other p (p.rcd 1) w (by rw [hk]; rfl) (make1 p hk) (remade_is p 1 (plainly1 p) (make1 (p.norm 1) rfl)) (assert_no (by simp) Try.underlying66 Try.zeroValue66)
    · exact law_other p (p.rcd 2) w (by rw [hk]; rfl) (make2 p hk) (remade_is p 2 (plainly2 p) (make2 (p.norm 2) rfl)) (assert_no (by simp) Try.underlying66 Try.zeroValue66)
    · exact law_other p (p.rcd 3) w (by rw [hk]; rfl) (make3 p hk) (remade_is p 3 (plainly3 p) (make3 (p.norm 3) rfl)) (assert_no (by simp) Try.underlying66 Try.zeroValue66)
    · exact law_other p (p.rcd 4) w (by rw [hk]; rfl) (make4 p hk) (remade_is p 4 (plainly4 p) (make4 (p.norm 4) rfl)) (assert_no (by simp) Try.underlying66 Try.zeroValue66)
    · refine law_yes p w hk (fun i W => i.like p.jb ∧ i.has W L ∧ i.far w.heap.size ∧ w.heap.size ≤ W.heap.size) (fun i W o c ⟨h1, h2, h3, h4⟩ => ⟨h1, h2.keep (below_setRow ((Below.refl W.heap.size W).alloc (Nat.le_refl _) o) (Nat.le_refl _)) (Nat.le_refl _), h3, by simp; omega⟩) (make5 p hk) (fun W b => ?_) (fun W i b ⟨h1, h2, _, _⟩ => sameJob i p.jb L W h2 (h.keep b (Nat.le_refl _)) h1 hf)
      refine (job_at (p.rcd 5) (p.rcd 5) true W (fun i V B => i.like p.jb ∧ i.has V L ∧ i.far B) (fun i V g c B ⟨h1, h2, h3⟩ hg => ⟨h1, h2.row h3 hg c, h3⟩) (fun i V B B' ⟨h1, h2, h3⟩ hB => ⟨h1, h2, h3.low hB⟩) (remade_is p 5 (plainly5 p) (make5 (p.norm 5) rfl)) (fun V bV => ?_)).mono fun e w' ⟨i, he, ⟨h1, h2, h3⟩, hb⟩ => ⟨i, he, ⟨h1, h2, h3.low b.size, Nat.le_trans b.size hb.size⟩, hb⟩
      exact (submitted_yes p.jb L V ((h.keep b (Nat.le_refl _)).keep bV (Nat.le_refl _)) hf).mono fun e w' ⟨i, he, h1, h2, h3, hb⟩ => ⟨i, he, ⟨h1, h2, h3⟩, hb⟩
    · exact law_other p (p.rcd 6) w (by rw [hk]; rfl) (make6 p hk) (remade_is p 6 (plainly6 p) (make6 (p.norm 6) rfl)) (assert_no (by simp) Try.underlying66 Try.zeroValue66)
    · exact law_other p (p.rcd 7) w (by rw [hk]; rfl) (make7 p hk) (remade_is p 7 (plainly7 p) (make7 (p.norm 7) rfl)) (assert_no (by simp) Try.underlying66 Try.zeroValue66)
    · exact law_other p (p.rcd 8) w (by rw [hk]; rfl) (make8 p hk) (remade_is p 8 (plainly8 p) (make8 (p.norm 8) rfl)) (assert_no (by simp) Try.underlying66 Try.zeroValue66)
    · exact law_other p (p.rcd 9) w (by rw [hk]; rfl) (make9 p hk) (remade_is p 9 (plainly9 p) (make9 (p.norm 9) rfl)) (assert_no (by simp) Try.underlying66 Try.zeroValue66)
    · exact law_other p (p.rcd 10) w (by rw [hk]; rfl) (make10 p hk) (remade_is p 10 (plainly10 p) (make10 (p.norm 10) rfl)) (assert_no (by simp) Try.underlying66 Try.zeroValue66)
    · exact law_other p (p.rcd 11) w (by rw [hk]; rfl) (make11 p hk) (remade_is p 11 (plainly11 p) (make11 (p.norm 11) rfl)) (assert_no (by simp) Try.underlying66 Try.zeroValue66)
  · have hne : (p.kind != 5) = true := by simp; omega
    exact law_other p .nilIface w hne (make0 p hr) (fun W => remade_at _ _ _ W (plainly0 p) (make0 (p.norm 0) (by show ¬ ((1 : Int) ≤ 0 ∧ (0 : Int) ≤ 11); decide))) (assert_nil Try.underlying66 Try.zeroValue66)

end Go.Proofs.Ytnkkiepoljbhlaa
