/-
  The contract of SameJob.
-/
import Derived.Test.YtnkkiepoljbhlaaSub
namespace Go.Proofs.Ytnkkiepoljbhlaa
open Go.RowKit

theorem c11a {w : World} {g : Nat} {v0 v1 v2 v3 v4 v5 v6 v7 v8 v9 v10 : Value} {ty : TypeId} (h : w.heap[g]? = some (.cells #[v0, v1, v2, v3, v4, v5, v6, v7, v8, v9, v10] ty)) :
    w.cell? ⟨g, 0, none⟩ = some v0 ∧ w.cell? ⟨g, 1, none⟩ = some v1 ∧ w.cell? ⟨g, 2, none⟩ = some v2 ∧ w.cell? ⟨g, 3, none⟩ = some v3 ∧ w.cell? ⟨g, 4, none⟩ = some v4 ∧ w.cell? ⟨g, 5, none⟩ = some v5 ∧ w.cell? ⟨g, 6, none⟩ = some v6 ∧ w.cell? ⟨g, 7, none⟩ = some v7 ∧ w.cell? ⟨g, 8, none⟩ = some v8 ∧ w.cell? ⟨g, 9, none⟩ = some v9 ∧ w.cell? ⟨g, 10, none⟩ = some v10 :=
  ⟨Lib.cell_of_heap h 0, Lib.cell_of_heap h 1, Lib.cell_of_heap h 2, Lib.cell_of_heap h 3, Lib.cell_of_heap h 4, Lib.cell_of_heap h 5, Lib.cell_of_heap h 6, Lib.cell_of_heap h 7, Lib.cell_of_heap h 8, Lib.cell_of_heap h 9, Lib.cell_of_heap h 10⟩
set_option maxHeartbeats 1000000 in
set_option maxRecDepth 100000 in
theorem sameJob_at (id pr rt st at' sr : Int) (tn : ByteArray) (pa tk nd dn pa' tk' nd' dn' : SL) (w : World)
    (HP : Hid (∀ W, Below w.heap.size w W → Calls Try.prog 37 #[.slice pa.a pa.n pa.c, .slice pa'.a pa'.n pa'.c] W fun e w' => e = .returned (.bool true) ∧ Below W.heap.size W w'))
    (HT : Hid (∀ W, Below w.heap.size w W → Calls Try.prog 38 #[.slice tk.a tk.n tk.c, .slice tk'.a tk'.n tk'.c] W fun e w' => e = .returned (.bool true) ∧ Below W.heap.size W w'))
    (HN : Hid (∀ W, Below w.heap.size w W → Calls Try.prog 35 #[.slice nd.a nd.n nd.c, .slice nd'.a nd'.n nd'.c] W fun e w' => e = .returned (.bool true) ∧ Below W.heap.size W w'))
    (HD : Hid (∀ W, Below w.heap.size w W → Calls Try.prog 35 #[.slice dn.a dn.n dn.c, .slice dn'.a dn'.n dn'.c] W fun e w' => e = .returned (.bool true) ∧ Below W.heap.size W w')) :
    Calls Try.prog 19 #[.agg #[.int .i64 id, .string tn, .int .i64 pr, .int .i64 rt, .slice pa.a pa.n pa.c, .slice tk.a tk.n tk.c, .int .i64 st, .int .i64 at', .slice nd.a nd.n nd.c, .int .i64 sr, .slice dn.a dn.n dn.c], .agg #[.int .i64 id, .string tn, .int .i64 pr, .int .i64 rt, .slice pa'.a pa'.n pa'.c, .slice tk'.a tk'.n tk'.c, .int .i64 st, .int .i64 at', .slice nd'.a nd'.n nd'.c, .int .i64 sr, .slice dn'.a dn'.n dn'.c]] w
      fun e w' => e = .returned (.bool true) ∧ Below w.heap.size w w' := by
  go_enter Try.func19, Try.ntmps19
  go_upto_region 1 with fail
  have p1 := at_alloc (o := .cells #[.int .i64 id, .string tn, .int .i64 pr, .int .i64 rt, .slice pa'.a pa'.n pa'.c, .slice tk'.a tk'.n tk'.c, .int .i64 st, .int .i64 at', .slice nd'.a nd'.n nd'.c, .int .i64 sr, .slice dn'.a dn'.n dn'.c] 30) (new0 (w := w) (o := .cells #[.int .i64 id, .string tn, .int .i64 pr, .int .i64 rt, .slice pa.a pa.n pa.c, .slice tk.a tk.n tk.c, .int .i64 st, .int .i64 at', .slice nd.a nd.n nd.c, .int .i64 sr, .slice dn.a dn.n dn.c] 30))
  have q1 := new1 (w := w) (o := .cells #[.int .i64 id, .string tn, .int .i64 pr, .int .i64 rt, .slice pa.a pa.n pa.c, .slice tk.a tk.n tk.c, .int .i64 st, .int .i64 at', .slice nd.a nd.n nd.c, .int .i64 sr, .slice dn.a dn.n dn.c] 30) (o' := .cells #[.int .i64 id, .string tn, .int .i64 pr, .int .i64 rt, .slice pa'.a pa'.n pa'.c, .slice tk'.a tk'.n tk'.c, .int .i64 st, .int .i64 at', .slice nd'.a nd'.n nd'.c, .int .i64 sr, .slice dn'.a dn'.n dn'.c] 30)
  have y1 : Hid (Below w.heap.size w ((w.alloc (.cells #[.int .i64 id, .string tn, .int .i64 pr, .int .i64 rt, .slice pa.a pa.n pa.c, .slice tk.a tk.n tk.c, .int .i64 st, .int .i64 at', .slice nd.a nd.n nd.c, .int .i64 sr, .slice dn.a dn.n dn.c] 30)).alloc (.cells #[.int .i64 id, .string tn, .int .i64 pr, .int .i64 rt, .slice pa'.a pa'.n pa'.c, .slice tk'.a tk'.n tk'.c, .int .i64 st, .int .i64 at', .slice nd'.a nd'.n nd'.c, .int .i64 sr, .slice dn'.a dn'.n dn'.c] 30))) := ((Below.refl _ w).alloc (Nat.le_refl _) _).alloc (by simp) _
  generalize (w.alloc (.cells #[.int .i64 id, .string tn, .int .i64 pr, .int .i64 rt, .slice pa.a pa.n pa.c, .slice tk.a tk.n tk.c, .int .i64 st, .int .i64 at', .slice nd.a nd.n nd.c, .int .i64 sr, .slice dn.a dn.n dn.c] 30)).alloc (.cells #[.int .i64 id, .string tn, .int .i64 pr, .int .i64 rt, .slice pa'.a pa'.n pa'.c, .slice tk'.a tk'.n tk'.c, .int .i64 st, .int .i64 at', .slice nd'.a nd'.n nd'.c, .int .i64 sr, .slice dn'.a dn'.n dn'.c] 30) = W at *
  have P1 : Hid _ := p1
  have Q1 : Hid _ := q1
  obtain ⟨e0, e1, e2, e3, e4, e5, e6, e7, e8, e9, e10⟩ := c11a p1
  obtain ⟨g0, g1, g2, g3, g4, g5, g6, g7, g8, g9, g10⟩ := c11a q1
  clear p1 q1
  go_upto_region 3 with fail
  go_wp2_with (go_at_call 37; refine (HP.out _ y1.out).mono ?_)
  rintro e w1 ⟨rfl, b1⟩
  have P2 : Hid _ := at_below b1 (Nat.le_refl _) P1.out
  have Q2 : Hid _ := at_below b1 (Nat.le_refl _) Q1.out
  have y2 : Hid _ := below_from y1.out b1 y1.out.size
  clear e0 e1 e2 e3 e4 e5 e6 e7 e8 e9 e10 g0 g1 g2 g3 g4 g5 g6 g7 g8 g9 g10
  clear b1
  obtain ⟨e0, e1, e2, e3, e4, e5, e6, e7, e8, e9, e10⟩ := c11a P2.out
  obtain ⟨g0, g1, g2, g3, g4, g5, g6, g7, g8, g9, g10⟩ := c11a Q2.out
  go_wp2_with (go_at_call 38; refine (HT.out _ y2.out).mono ?_)
  rintro e w2 ⟨rfl, b2⟩
  have P3 : Hid _ := at_below b2 (Nat.le_refl _) P2.out
  have Q3 : Hid _ := at_below b2 (Nat.le_refl _) Q2.out
  have y3 : Hid _ := below_from y2.out b2 y2.out.size
  clear e0 e1 e2 e3 e4 e5 e6 e7 e8 e9 e10 g0 g1 g2 g3 g4 g5 g6 g7 g8 g9 g10
  clear b2
  obtain ⟨e0, e1, e2, e3, e4, e5, e6, e7, e8, e9, e10⟩ := c11a P3.out
  obtain ⟨g0, g1, g2, g3, g4, g5, g6, g7, g8, g9, g10⟩ := c11a Q3.out
  go_wp2_with (go_at_call 35; refine (HN.out _ y3.out).mono ?_)
  rintro e w3 ⟨rfl, b3⟩
  have P4 : Hid _ := at_below b3 (Nat.le_refl _) P3.out
  have Q4 : Hid _ := at_below b3 (Nat.le_refl _) Q3.out
  have y4 : Hid _ := below_from y3.out b3 y3.out.size
  clear e0 e1 e2 e3 e4 e5 e6 e7 e8 e9 e10 g0 g1 g2 g3 g4 g5 g6 g7 g8 g9 g10
  clear b3
  obtain ⟨e0, e1, e2, e3, e4, e5, e6, e7, e8, e9, e10⟩ := c11a P4.out
  obtain ⟨g0, g1, g2, g3, g4, g5, g6, g7, g8, g9, g10⟩ := c11a Q4.out
  go_wp2_with (go_at_call 35; refine (HD.out _ y4.out).mono ?_)
  rintro e w4 ⟨rfl, b4⟩
  go_wp2_with fail
  go_ret
  exact ⟨rfl, below_from y4.out b4 y4.out.size⟩

theorem SLh.len {w : World} {s : SL} {n : Nat} {xs : List Value} (h : SLh w s n xs) : s.v = .slice s.a n s.c := by unfold SL.v; rw [h.2.1]
theorem sameJob (i j : JB) (L : JL) (w : World) (hi : i.has w L) (hj : j.has w L) (hl : i.like j) (hf : Fits j L) :
    Calls Try.prog 19 #[.agg i.cells, .agg j.cells] w fun e w' => e = .returned (.bool true) ∧ Below w.heap.size w w' := by
  obtain ⟨id, tn, pr, rt, pa, tk, st, at', nd, sr, dn⟩ := i
  obtain ⟨id', tn', pr', rt', pa', tk', st', at'', nd', sr', dn'⟩ := j
  obtain ⟨rfl, rfl, rfl, rfl, rfl, rfl, rfl⟩ := hl
  obtain ⟨h1, h2, h3, h4⟩ := hi
  obtain ⟨k1, k2, k3, k4⟩ := hj
  refine sameJob_at id pr rt st at' sr tn pa tk nd dn pa' tk' nd' dn' w (fun W b => ?_) (fun W b => ?_) (fun W b => ?_) (fun W b => ?_)
  · have := sameInts L.pa pa.a pa'.a pa.c pa'.c W (Nat.lt_of_le_of_lt hf.pa (by decide)) (h1.1.keep b (Nat.le_refl _)) (k1.1.keep b (Nat.le_refl _))
    rw [h1.2.1, k1.2.1]; exact this
  · have := sameVecs L.tk tk.a tk'.a tk.c tk'.c W (Nat.lt_of_le_of_lt hf.tk (by decide)) (h2.1.keep b (Nat.le_refl _)) (k2.1.keep b (Nat.le_refl _))
    rw [h2.2.1, k2.2.1]; exact this
  · have := sameTexts L.nd nd.a nd'.a nd.c nd'.c W (Nat.lt_of_le_of_lt hf.nd (by decide)) (h3.1.keep b (Nat.le_refl _)) (k3.1.keep b (Nat.le_refl _))
    rw [h3.2.1, k3.2.1]; exact this
  · have := sameTexts L.dn dn.a dn'.a dn.c dn'.c W (Nat.lt_of_le_of_lt hf.dn (by decide)) (h4.1.keep b (Nat.le_refl _)) (k4.1.keep b (Nat.le_refl _))
    rw [h4.2.1, k4.2.1]; exact this

end Go.Proofs.Ytnkkiepoljbhlaa
