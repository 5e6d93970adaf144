/-
  The document's Same of two records.
-/
import Derived.Test.YtnkkiepoljbhlaaEni
import Derived.Deep.MidRow
import Derived.Test.YtnkkiepoljbhlaaSjb
namespace Go.Proofs.Ytnkkiepoljbhlaa
open Go.RowKit

theorem btwo_heap (w : World) (A B : Array Value) : ((w.alloc (Obj.cells A 32)).alloc (Obj.cells B 32)).heap[w.heap.size + 1]? = some (.cells B 32 (0, 0)) := by
  show (Array.push _ _)[_]? = _
  rw [Array.getElem?_push]
  exact if_pos (by simp)
theorem bsize30q (j : JB) : (Try.prog.info? 30).map (·.size) = some j.cells.size := by
  have : (Try.prog.info? 30).map (·.size) = some 11 := by kernel_rfl
  exact this
theorem beqv23 (a b c d : Int) (w : World) : (Op.equalIn 9999 23 (.agg #[.int .i64 a, .int .i64 b, .int .i64 c, .int .i64 d]) (.agg #[.int .i64 a, .int .i64 b, .int .i64 c, .int .i64 d])).run Try.prog w = .ok true w := by
  have eqi (a : Int) (w : World) : (Op.equalIn 9998 2 (.int .i64 a) (.int .i64 a)).run Try.prog w = .ok (a == a) w := run_equalIn_int w 9997 2 .i64 .i64 a a Try.underlying2
  rw [run_equalIn_array w 9998 _ _ Try.underlying23 (info_of_underlying Try.underlying2).choose_spec, cells2]
  rw [show List.range 4 = [0, 1, 2, 3] from rfl]
  simp [Op.eqItems, part0, part1, part2, part3, eqi]
theorem bjb_range {W : World} {b : Nat} {p : PL} (h : W.heap[b]? = some (.cells p.cells 32 (0, 0))) : W.rangeAt b 13 p.jb.cells.toList := World.rangeAt_of_block h 13 11
theorem bwpList_load_jb {ops : Array Oper} {rest : List Oper} {o : Oper} {a : Act} {w : World} {Q : Exit → Act → World → Prop} (hgd : o.guard = none) (x : Operand) (ho : o.op = .load 30 x)
    (b : Nat) (hx : a.eval x = .pointer (some ⟨b, 13, none⟩)) (p : PL) (hb : w.heap[b]? = some (.cells p.cells 32 (0, 0)))
    (h : wpList Try.prog ops Q rest (a.put o.dst (.agg p.jb.cells)) w) : wpList Try.prog ops Q (o :: rest) a w := by
  refine wpList_load_mid hgd 30 x ho b 13 hx p.jb.cells.toList _ (bjb_range hb) Try.underlying30 rfl (by rw [Array.length_toList]; exact bsize30q p.jb) ?_
  rw [Array.toArray_toList]
  exact h
/-- a record's cells as they lie, but for the job's -/
theorem bpl_ats {W : World} {b : Nat} {p : PL} (h : W.heap[b]? = some (.cells p.cells 32 (0, 0))) : W.cell? ⟨b, 0, none⟩ = some (.int .i64 p.kind) ∧ W.cell? ⟨b, 1, none⟩ = some (.string p.tn) ∧ W.cell? ⟨b, 2, none⟩ = some (.int .i64 p.tw) ∧ W.cell? ⟨b, 3, none⟩ = some (.int .i64 p.q0) ∧ W.cell? ⟨b, 4, none⟩ = some (.int .i64 p.q1) ∧ W.cell? ⟨b, 5, none⟩ = some (.int .i64 p.q2) ∧ W.cell? ⟨b, 6, none⟩ = some (.int .i64 p.q3) ∧ W.cell? ⟨b, 7, none⟩ = some (.string p.nd) ∧ W.cell? ⟨b, 8, none⟩ = some (.int .i64 p.ep) ∧ W.cell? ⟨b, 9, none⟩ = some (.int .i64 p.v0) ∧ W.cell? ⟨b, 10, none⟩ = some (.int .i64 p.v1) ∧ W.cell? ⟨b, 11, none⟩ = some (.int .i64 p.v2) ∧ W.cell? ⟨b, 12, none⟩ = some (.int .i64 p.v3) ∧ W.cell? ⟨b, 24, none⟩ = some (.int .i64 p.id) ∧ W.cell? ⟨b, 25, none⟩ = some (.slice p.ns.a p.ns.n p.ns.c) ∧ W.cell? ⟨b, 26, none⟩ = some (.int .i64 p.st) :=
  ⟨Lib.cell_of_heap h 0, Lib.cell_of_heap h 1, Lib.cell_of_heap h 2, Lib.cell_of_heap h 3, Lib.cell_of_heap h 4, Lib.cell_of_heap h 5, Lib.cell_of_heap h 6, Lib.cell_of_heap h 7, Lib.cell_of_heap h 8, Lib.cell_of_heap h 9, Lib.cell_of_heap h 10, Lib.cell_of_heap h 11, Lib.cell_of_heap h 12, Lib.cell_of_heap h 24, Lib.cell_of_heap h 25, Lib.cell_of_heap h 26⟩
set_option maxHeartbeats 4000000 in
set_option maxRecDepth 100000 in
theorem bsame17_at (p q : PL) (j : JB) (s : SL) (w : World) (hq : q = { p with jb := j, ns := s })
    (HJ : Hid (∀ W, Below w.heap.size w W → Calls Try.prog 19 #[.agg p.jb.cells, .agg j.cells] W fun e w' => e = .returned (.bool true) ∧ Below W.heap.size W w'))
    (HN : Hid (∀ W, Below w.heap.size w W → Calls Try.prog 35 #[.slice p.ns.a p.ns.n p.ns.c, .slice s.a s.n s.c] W fun e w' => e = .returned (.bool true) ∧ Below W.heap.size W w')) :
    Calls Try.prog 17 #[.agg p.cells, .agg q.cells] w fun e w' => e = .returned (.bool true) ∧ Below w.heap.size w w' := by
  have HQ : Hid (q = { p with jb := j, ns := s }) := hq
  clear hq
  go_enter Try.func17, Try.ntmps17
  go_upto_region 1 with fail
  have H0 : Hid (((w.alloc (Obj.cells p.cells 32)).alloc (Obj.cells q.cells 32)).heap[w.heap.size]? = some (.cells p.cells 32 (0, 0)) ∧ ((w.alloc (Obj.cells p.cells 32)).alloc (Obj.cells q.cells 32)).heap[w.heap.size + 1]? = some (.cells q.cells 32 (0, 0)) ∧ Below w.heap.size w ((w.alloc (Obj.cells p.cells 32)).alloc (Obj.cells q.cells 32))) := ⟨at_alloc new0, btwo_heap w _ _, ((Below.refl _ w).alloc (Nat.le_refl _) _).alloc (by simp) _⟩
  refine (?_ : ∀ W, Hid (W.heap[w.heap.size]? = some (.cells p.cells 32 (0, 0)) ∧ W.heap[w.heap.size + 1]? = some (.cells q.cells 32 (0, 0)) ∧ Below w.heap.size w W) → Code.wp Try.prog _ _ _ W) _ H0
  clear H0
  intro W H0
  obtain ⟨c0, c1, c2, c3, c4, c5, c6, c7, c8, c9, c10, c11, c12, c24, c25, c26⟩ := bpl_ats H0.out.1
  have K := bpl_ats H0.out.2.1
  rw [HQ.out] at K
  obtain ⟨d0, d1, d2, d3, d4, d5, d6, d7, d8, d9, d10, d11, d12, d24, d25, d26⟩ := K
  simp only at d0 d1 d2 d3 d4 d5 d6 d7 d8 d9 d10 d11 d12 d24 d25 d26
  have QJ : Hid (q.jb = j) := by rw [HQ.out]; rfl
  have E1 := fun W => beqv23 p.q0 p.q1 p.q2 p.q3 W
  have E2 := fun W => eq4 p.v0 p.v1 p.v2 p.v3 W
  go_upto_region 3 with fail
  go_wp2_with (first
    | refine bwpList_load_jb rfl (.tmp 52) rfl w.heap.size rfl p H0.out.1 ?_
    | (refine bwpList_load_jb rfl (.tmp 54) rfl (w.heap.size + 1) rfl q H0.out.2.1 ?_; rw [QJ.out])
    | (go_at_call 19; refine (HJ.out _ H0.out.2.2).mono ?_; rintro e w1 ⟨rfl, b1⟩; have B1 : Hid _ := below_from H0.out.2.2 b1 H0.out.2.2.size; have c25' := (b1.cell (block_lt_of_cell c25)).trans c25; have d25' := (b1.cell (block_lt_of_cell d25)).trans d25)
    | (go_at_call 35; refine (HN.out _ B1.out).mono ?_; rintro e w2 ⟨rfl, b2⟩))
  go_ret
  exact ⟨rfl, below_from B1.out b2 B1.out.size⟩
theorem bsame17 (p q : PL) (j : JB) (s : SL) (L : JL) (N : List ByteArray) (w : World) (hq : q = { p with jb := j, ns := s }) (h1 : p.jb.has w L) (h2 : j.has w L) (hl : p.jb.like j) (hf : Fits j L)
    (n1 : SLh w p.ns N.length (textsV N)) (n2 : SLh w s N.length (textsV N)) (hN : N.length < 1152921504606846976) :
    Calls Try.prog 17 #[.agg p.cells, .agg q.cells] w fun e w' => e = .returned (.bool true) ∧ Below w.heap.size w w' := by
  refine bsame17_at p q j s w hq (fun W b => sameJob p.jb j L W (h1.keep b (Nat.le_refl _)) (h2.keep b (Nat.le_refl _)) hl hf) (fun W b => ?_)
  have := sameTexts N p.ns.a s.a p.ns.c s.c W hN (n1.1.keep b (Nat.le_refl _)) (n2.1.keep b (Nat.le_refl _))
  rw [n1.2.1, n2.2.1]
  exact this
end Go.Proofs.Ytnkkiepoljbhlaa
