/-
  The contracts of api.Plainly.
-/
import Derived.Test.YtnkkiepoljbhlaaMk
import Derived.Laws.ResultCell
import Derived.Deep.WholeRow
import Derived.WalkSmall
import Derived.Deep.CutBlock
import Derived.Deep.CutRange
import Derived.Deep.DeepCutAuto
namespace Go.Proofs.Ytnkkiepoljbhlaa
open Go.RowKit

theorem new0 {w : World} {o : Obj} : (w.alloc o).heap[w.heap.size]? = some o := Go.heap_alloc_new w _
theorem at_alloc {w : World} {n : Nat} {o x : Obj} (h : w.heap[n]? = some x) : (w.alloc o).heap[n]? = some x := (Below.heap_alloc w o n (Array.getElem?_eq_some_iff.1 h).1).trans h
theorem assert_yes {t x : TypeId} {v : Value} {fs} (hu : Try.prog.underlying t = some (.struct fs)) : ∀ w, (Instr.typeAssert (.iface t v) x t true).run Try.prog w = .ok (.tuple #[v, .bool true]) w := fun w => by
  simp [Instr.typeAssert, run_underlying hu]
theorem assert_no {t u x : TypeId} {v z : Value} {fs} (hne : (t = u) = False) (hu : Try.prog.underlying u = some (.struct fs)) (hz : ∀ w, (zeroValue u).run Try.prog w = .ok z w) : ∀ w, (Instr.typeAssert (.iface t v) x u true).run Try.prog w = .ok (.tuple #[z, .bool false]) w := fun w => by
  simp [Instr.typeAssert, run_underlying hu, hne, hz, Result.andThen]
theorem assert_nil {u x : TypeId} {z : Value} {fs} (hu : Try.prog.underlying u = some (.struct fs)) (hz : ∀ w, (zeroValue u).run Try.prog w = .ok z w) : ∀ w, (Instr.typeAssert .nilIface x u true).run Try.prog w = .ok (.tuple #[z, .bool false]) w := fun w => by
  simp [Instr.typeAssert, run_underlying hu, hz, Result.andThen]
theorem build_row {ops : Array Oper} {rest : List Oper} {o : Oper} {a : Act} {w : World} {Q : Exit → Act → World → Prop} (hg : o.guard = none) (t : TypeId) (parts : Array (Nat × Operand)) (ho : o.op = .build t parts) (vals : List (Nat × Value)) (c : Array Value)
    (he : (parts.map fun (i, x) => (i, a.eval x)).toList = vals) (hb : Try.prog.built t vals = some c) (h : wpList Try.prog ops Q rest (a.put o.dst (.agg c)) w) : wpList Try.prog ops Q (o :: rest) a w := by
  refine wpList_build hg t parts ho ?_ ?_
  · rw [he, hb]; rfl
  · rw [he, hb, Option.getD_some]; exact h
theorem set_row {w : World} {g : Nat} {c c' : Array Value} {t : TypeId} (h : w.heap[g]? = some (.cells c t (0, 0))) : (w.setRow g c').heap[g]? = some (.cells c' t (0, 0)) := setRow_heap w g c _ t _ h
theorem below_setRow {B : Nat} {a w : World} {g : Nat} {c : Array Value} (h : Below B a w) (hg : B ≤ g) : Below B a (w.setRow g c) :=
  ⟨h.os, h.tape, h.output, by simpa using h.size, fun k hk => (setRow_other w g k _ (by omega)).trans (h.block k hk)⟩
theorem size32 : (Try.prog.info? 32).map (·.size) = some 27 := by kernel_rfl
theorem plain_all (p : PL) : p.cells.all (·.oneCell') = true := by kernel_rfl

theorem built1 (p : PL) : Try.prog.built 32 [(0, .int .i64 1), (1, .agg #[.string p.tn, .int .i64 p.tw, .int .i64 p.q0, .int .i64 p.q1, .int .i64 p.q2, .int .i64 p.q3])] = some (p.norm 1).cells := by kernel_rfl
set_option maxHeartbeats 1000000 in
set_option maxRecDepth 100000 in
theorem plainly1 (p : PL) (w : World) :
    Calls Try.prog 9 #[p.rcd 1] w fun e w' => e = .returned (.agg (p.norm 1).cells) ∧ Below w.heap.size w w' := by
  have hB := built1 p
  have hall := plain_all (p.norm 1)
  have hsz : (Try.prog.info? 32).map (·.size) = some (p.norm 1).cells.size := size32
  have hsz2 : 27 = (p.norm 1).cells.size := rfl
  generalize (p.norm 1).cells = P at *
  have HB : Hid (Try.prog.built 32 [(0, .int .i64 1), (1, .agg #[.string p.tn, .int .i64 p.tw, .int .i64 p.q0, .int .i64 p.q1, .int .i64 p.q2, .int .i64 p.q3])] = some P) := hB
  have HA : Hid (P.all (·.oneCell') = true) := hall
  have HS : Hid ((Try.prog.info? 32).map (·.size) = some P.size) := hsz
  have HS2 : Hid (27 = P.size) := hsz2
  clear hB hall hsz hsz2
  unfold PL.rcd
  have a1 := assert_yes (x := 35) (v := .agg #[.string p.tn, .int .i64 p.tw, .int .i64 p.q0, .int .i64 p.q1, .int .i64 p.q2, .int .i64 p.q3]) Try.underlying61
  go_enter Try.func9, Try.ntmps9
  go_upto_region 4 with fail
  iterate 7 go_step
  refine build_row rfl 32 _ rfl [(0, .int .i64 1), (1, .agg #[.string p.tn, .int .i64 p.tw, .int .i64 p.q0, .int .i64 p.q1, .int .i64 p.q2, .int .i64 p.q3])] _ (by simp [Act.eval]) HB.out ?_
  refine wpList_store_row rfl 32 _ _ rfl w.heap.size P rfl rfl 32 _ (at_alloc new0) HS.out HS2.out HA.out ?_
  go_wp2_with fail
  refine bodyPost_ret (results_cell_row Try.results9 _ _ w.heap.size 32 P (0, 0) _ rfl (set_row (at_alloc new0)) Try.underlying32 rfl HS.out) rfl ?_
  refine ⟨rfl, below_setRow ?_ (Nat.le_refl _)⟩
  go_grown
theorem built2 (p : PL) : Try.prog.built 32 [(0, .int .i64 2), (2, .string p.nd), (3, .int .i64 p.ep), (4, .agg #[.int .i64 p.v0, .int .i64 p.v1, .int .i64 p.v2, .int .i64 p.v3])] = some (p.norm 2).cells := by kernel_rfl
set_option maxHeartbeats 1000000 in
set_option maxRecDepth 100000 in
theorem plainly2 (p : PL) (w : World) :
    Calls Try.prog 9 #[p.rcd 2] w fun e w' => e = .returned (.agg (p.norm 2).cells) ∧ Below w.heap.size w w' := by
  have hB := built2 p
  have hall := plain_all (p.norm 2)
  have hsz : (Try.prog.info? 32).map (·.size) = some (p.norm 2).cells.size := size32
  have hsz2 : 27 = (p.norm 2).cells.size := rfl
  generalize (p.norm 2).cells = P at *
  have HB : Hid (Try.prog.built 32 [(0, .int .i64 2), (2, .string p.nd), (3, .int .i64 p.ep), (4, .agg #[.int .i64 p.v0, .int .i64 p.v1, .int .i64 p.v2, .int .i64 p.v3])] = some P) := hB
  have HA : Hid (P.all (·.oneCell') = true) := hall
  have HS : Hid ((Try.prog.info? 32).map (·.size) = some P.size) := hsz
  have HS2 : Hid (27 = P.size) := hsz2
  clear hB hall hsz hsz2
  unfold PL.rcd
  have a1 := assert_no (t := 63) (x := 35) (v := .agg #[.string p.nd, .int .i64 p.ep, .int .i64 p.v0, .int .i64 p.v1, .int .i64 p.v2, .int .i64 p.v3]) (by simp) Try.underlying61 Try.zeroValue61
  have a2 := assert_yes (x := 35) (v := .agg #[.string p.nd, .int .i64 p.ep, .int .i64 p.v0, .int .i64 p.v1, .int .i64 p.v2, .int .i64 p.v3]) Try.underlying63
  go_enter Try.func9, Try.ntmps9
  go_upto_region 7 with fail
  iterate 19 go_step
  refine build_row rfl 32 _ rfl [(0, .int .i64 2), (2, .string p.nd), (3, .int .i64 p.ep), (4, .agg #[.int .i64 p.v0, .int .i64 p.v1, .int .i64 p.v2, .int .i64 p.v3])] _ (by simp [Act.eval]) HB.out ?_
  refine wpList_store_row rfl 32 _ _ rfl w.heap.size P rfl rfl 32 _ (at_alloc new0) HS.out HS2.out HA.out ?_
  go_wp2_with fail
  refine bodyPost_ret (results_cell_row Try.results9 _ _ w.heap.size 32 P (0, 0) _ rfl (set_row (at_alloc new0)) Try.underlying32 rfl HS.out) rfl ?_
  refine ⟨rfl, below_setRow ?_ (Nat.le_refl _)⟩
  go_grown
theorem built3 (p : PL) : Try.prog.built 32 [(0, .int .i64 3), (2, .string p.nd)] = some (p.norm 3).cells := by kernel_rfl
set_option maxHeartbeats 1000000 in
set_option maxRecDepth 100000 in
theorem plainly3 (p : PL) (w : World) :
    Calls Try.prog 9 #[p.rcd 3] w fun e w' => e = .returned (.agg (p.norm 3).cells) ∧ Below w.heap.size w w' := by
  have hB := built3 p
  have hall := plain_all (p.norm 3)
  have hsz : (Try.prog.info? 32).map (·.size) = some (p.norm 3).cells.size := size32
  have hsz2 : 27 = (p.norm 3).cells.size := rfl
  generalize (p.norm 3).cells = P at *
  have HB : Hid (Try.prog.built 32 [(0, .int .i64 3), (2, .string p.nd)] = some P) := hB
  have HA : Hid (P.all (·.oneCell') = true) := hall
  have HS : Hid ((Try.prog.info? 32).map (·.size) = some P.size) := hsz
  have HS2 : Hid (27 = P.size) := hsz2
  clear hB hall hsz hsz2
  unfold PL.rcd
  have a1 := assert_no (t := 57) (x := 35) (v := .agg #[.string p.nd]) (by simp) Try.underlying61 Try.zeroValue61
  have a2 := assert_no (t := 57) (x := 35) (v := .agg #[.string p.nd]) (by simp) Try.underlying63 Try.zeroValue63
  have a3 := assert_yes (x := 35) (v := .agg #[.string p.nd]) Try.underlying57
  go_enter Try.func9, Try.ntmps9
  go_upto_region 10 with fail
  iterate 7 go_step
  refine build_row rfl 32 _ rfl [(0, .int .i64 3), (2, .string p.nd)] _ (by simp [Act.eval]) HB.out ?_
  refine wpList_store_row rfl 32 _ _ rfl w.heap.size P rfl rfl 32 _ (at_alloc new0) HS.out HS2.out HA.out ?_
  go_wp2_with fail
  refine bodyPost_ret (results_cell_row Try.results9 _ _ w.heap.size 32 P (0, 0) _ rfl (set_row (at_alloc new0)) Try.underlying32 rfl HS.out) rfl ?_
  refine ⟨rfl, below_setRow ?_ (Nat.le_refl _)⟩
  go_grown
theorem built4 (p : PL) : Try.prog.built 32 [(0, .int .i64 4), (2, .string p.nd)] = some (p.norm 4).cells := by kernel_rfl
set_option maxHeartbeats 1000000 in
set_option maxRecDepth 100000 in
theorem plainly4 (p : PL) (w : World) :
    Calls Try.prog 9 #[p.rcd 4] w fun e w' => e = .returned (.agg (p.norm 4).cells) ∧ Below w.heap.size w w' := by
  have hB := built4 p
  have hall := plain_all (p.norm 4)
  have hsz : (Try.prog.info? 32).map (·.size) = some (p.norm 4).cells.size := size32
  have hsz2 : 27 = (p.norm 4).cells.size := rfl
  generalize (p.norm 4).cells = P at *
  have HB : Hid (Try.prog.built 32 [(0, .int .i64 4), (2, .string p.nd)] = some P) := hB
  have HA : Hid (P.all (·.oneCell') = true) := hall
  have HS : Hid ((Try.prog.info? 32).map (·.size) = some P.size) := hsz
  have HS2 : Hid (27 = P.size) := hsz2
  clear hB hall hsz hsz2
  unfold PL.rcd
  have a1 := assert_no (t := 64) (x := 35) (v := .agg #[.string p.nd]) (by simp) Try.underlying61 Try.zeroValue61
  have a2 := assert_no (t := 64) (x := 35) (v := .agg #[.string p.nd]) (by simp) Try.underlying63 Try.zeroValue63
  have a3 := assert_no (t := 64) (x := 35) (v := .agg #[.string p.nd]) (by simp) Try.underlying57 Try.zeroValue57
  have a4 := assert_yes (x := 35) (v := .agg #[.string p.nd]) Try.underlying64
  go_enter Try.func9, Try.ntmps9
  go_upto_region 13 with fail
  iterate 7 go_step
  refine build_row rfl 32 _ rfl [(0, .int .i64 4), (2, .string p.nd)] _ (by simp [Act.eval]) HB.out ?_
  refine wpList_store_row rfl 32 _ _ rfl w.heap.size P rfl rfl 32 _ (at_alloc new0) HS.out HS2.out HA.out ?_
  go_wp2_with fail
  refine bodyPost_ret (results_cell_row Try.results9 _ _ w.heap.size 32 P (0, 0) _ rfl (set_row (at_alloc new0)) Try.underlying32 rfl HS.out) rfl ?_
  refine ⟨rfl, below_setRow ?_ (Nat.le_refl _)⟩
  go_grown
theorem built5 (p : PL) : Try.prog.built 32 [(0, .int .i64 5), (5, .agg p.jb.cells)] = some (p.norm 5).cells := by kernel_rfl
set_option maxHeartbeats 1000000 in
set_option maxRecDepth 100000 in
theorem plainly5 (p : PL) (w : World) :
    Calls Try.prog 9 #[p.rcd 5] w fun e w' => e = .returned (.agg (p.norm 5).cells) ∧ Below w.heap.size w w' := by
  have hB := built5 p
  have hall := plain_all (p.norm 5)
  have hsz : (Try.prog.info? 32).map (·.size) = some (p.norm 5).cells.size := size32
  have hsz2 : 27 = (p.norm 5).cells.size := rfl
  generalize (p.norm 5).cells = P at *
  have HB : Hid (Try.prog.built 32 [(0, .int .i64 5), (5, .agg p.jb.cells)] = some P) := hB
  have HA : Hid (P.all (·.oneCell') = true) := hall
  have HS : Hid ((Try.prog.info? 32).map (·.size) = some P.size) := hsz
  have HS2 : Hid (27 = P.size) := hsz2
  clear hB hall hsz hsz2
  unfold PL.rcd JB.cells SL.v
  have a1 := assert_no (t := 66) (x := 35) (v := .agg #[.int .i64 p.jb.id, .string p.jb.tn, .int .i64 p.jb.pr, .int .i64 p.jb.rt, .slice p.jb.pa.a p.jb.pa.n p.jb.pa.c, .slice p.jb.tk.a p.jb.tk.n p.jb.tk.c, .int .i64 p.jb.st, .int .i64 p.jb.at', .slice p.jb.nd.a p.jb.nd.n p.jb.nd.c, .int .i64 p.jb.sr, .slice p.jb.dn.a p.jb.dn.n p.jb.dn.c]) (by simp) Try.underlying61 Try.zeroValue61
  have a2 := assert_no (t := 66) (x := 35) (v := .agg #[.int .i64 p.jb.id, .string p.jb.tn, .int .i64 p.jb.pr, .int .i64 p.jb.rt, .slice p.jb.pa.a p.jb.pa.n p.jb.pa.c, .slice p.jb.tk.a p.jb.tk.n p.jb.tk.c, .int .i64 p.jb.st, .int .i64 p.jb.at', .slice p.jb.nd.a p.jb.nd.n p.jb.nd.c, .int .i64 p.jb.sr, .slice p.jb.dn.a p.jb.dn.n p.jb.dn.c]) (by simp) Try.underlying63 Try.zeroValue63
  have a3 := assert_no (t := 66) (x := 35) (v := .agg #[.int .i64 p.jb.id, .string p.jb.tn, .int .i64 p.jb.pr, .int .i64 p.jb.rt, .slice p.jb.pa.a p.jb.pa.n p.jb.pa.c, .slice p.jb.tk.a p.jb.tk.n p.jb.tk.c, .int .i64 p.jb.st, .int .i64 p.jb.at', .slice p.jb.nd.a p.jb.nd.n p.jb.nd.c, .int .i64 p.jb.sr, .slice p.jb.dn.a p.jb.dn.n p.jb.dn.c]) (by simp) Try.underlying57 Try.zeroValue57
  have a4 := assert_no (t := 66) (x := 35) (v := .agg #[.int .i64 p.jb.id, .string p.jb.tn, .int .i64 p.jb.pr, .int .i64 p.jb.rt, .slice p.jb.pa.a p.jb.pa.n p.jb.pa.c, .slice p.jb.tk.a p.jb.tk.n p.jb.tk.c, .int .i64 p.jb.st, .int .i64 p.jb.at', .slice p.jb.nd.a p.jb.nd.n p.jb.nd.c, .int .i64 p.jb.sr, .slice p.jb.dn.a p.jb.dn.n p.jb.dn.c]) (by simp) Try.underlying64 Try.zeroValue64
  have a5 := assert_yes (x := 35) (v := .agg #[.int .i64 p.jb.id, .string p.jb.tn, .int .i64 p.jb.pr, .int .i64 p.jb.rt, .slice p.jb.pa.a p.jb.pa.n p.jb.pa.c, .slice p.jb.tk.a p.jb.tk.n p.jb.tk.c, .int .i64 p.jb.st, .int .i64 p.jb.at', .slice p.jb.nd.a p.jb.nd.n p.jb.nd.c, .int .i64 p.jb.sr, .slice p.jb.dn.a p.jb.dn.n p.jb.dn.c]) Try.underlying66
  go_enter Try.func9, Try.ntmps9
  go_upto_region 16 with fail
  iterate 7 go_step
  refine build_row rfl 32 _ rfl [(0, .int .i64 5), (5, .agg p.jb.cells)] _ (by simp [Act.eval, JB.cells, SL.v]) HB.out ?_
  refine wpList_store_row rfl 32 _ _ rfl w.heap.size P rfl rfl 32 _ (at_alloc new0) HS.out HS2.out HA.out ?_
  go_wp2_with fail
  refine bodyPost_ret (results_cell_row Try.results9 _ _ w.heap.size 32 P (0, 0) _ rfl (set_row (at_alloc new0)) Try.underlying32 rfl HS.out) rfl ?_
  refine ⟨rfl, below_setRow ?_ (Nat.le_refl _)⟩
  go_grown
theorem built6 (p : PL) : Try.prog.built 32 [(0, .int .i64 6), (6, .int .i64 p.id)] = some (p.norm 6).cells := by kernel_rfl
set_option maxHeartbeats 1000000 in
set_option maxRecDepth 100000 in
theorem plainly6 (p : PL) (w : World) :
    Calls Try.prog 9 #[p.rcd 6] w fun e w' => e = .returned (.agg (p.norm 6).cells) ∧ Below w.heap.size w w' := by
  have hB := built6 p
  have hall := plain_all (p.norm 6)
  have hsz : (Try.prog.info? 32).map (·.size) = some (p.norm 6).cells.size := size32
  have hsz2 : 27 = (p.norm 6).cells.size := rfl
  generalize (p.norm 6).cells = P at *
  have HB : Hid (Try.prog.built 32 [(0, .int .i64 6), (6, .int .i64 p.id)] = some P) := hB
  have HA : Hid (P.all (·.oneCell') = true) := hall
  have HS : Hid ((Try.prog.info? 32).map (·.size) = some P.size) := hsz
  have HS2 : Hid (27 = P.size) := hsz2
  clear hB hall hsz hsz2
  unfold PL.rcd
  have a1 := assert_no (t := 68) (x := 35) (v := .agg #[.int .i64 p.id]) (by simp) Try.underlying61 Try.zeroValue61
  have a2 := assert_no (t := 68) (x := 35) (v := .agg #[.int .i64 p.id]) (by simp) Try.underlying63 Try.zeroValue63
  have a3 := assert_no (t := 68) (x := 35) (v := .agg #[.int .i64 p.id]) (by simp) Try.underlying57 Try.zeroValue57
  have a4 := assert_no (t := 68) (x := 35) (v := .agg #[.int .i64 p.id]) (by simp) Try.underlying64 Try.zeroValue64
  have a5 := assert_no (t := 68) (x := 35) (v := .agg #[.int .i64 p.id]) (by simp) Try.underlying66 Try.zeroValue66
  have a6 := assert_yes (x := 35) (v := .agg #[.int .i64 p.id]) Try.underlying68
  go_enter Try.func9, Try.ntmps9
  go_upto_region 19 with fail
  iterate 7 go_step
  refine build_row rfl 32 _ rfl [(0, .int .i64 6), (6, .int .i64 p.id)] _ (by simp [Act.eval]) HB.out ?_
  refine wpList_store_row rfl 32 _ _ rfl w.heap.size P rfl rfl 32 _ (at_alloc new0) HS.out HS2.out HA.out ?_
  go_wp2_with fail
  refine bodyPost_ret (results_cell_row Try.results9 _ _ w.heap.size 32 P (0, 0) _ rfl (set_row (at_alloc new0)) Try.underlying32 rfl HS.out) rfl ?_
  refine ⟨rfl, below_setRow ?_ (Nat.le_refl _)⟩
  go_grown
theorem built7 (p : PL) : Try.prog.built 32 [(0, .int .i64 7), (6, .int .i64 p.id), (7, p.ns.v)] = some (p.norm 7).cells := by kernel_rfl
set_option maxHeartbeats 1000000 in
set_option maxRecDepth 100000 in
theorem plainly7 (p : PL) (w : World) :
    Calls Try.prog 9 #[p.rcd 7] w fun e w' => e = .returned (.agg (p.norm 7).cells) ∧ Below w.heap.size w w' := by
  have hB := built7 p
  have hall := plain_all (p.norm 7)
  have hsz : (Try.prog.info? 32).map (·.size) = some (p.norm 7).cells.size := size32
  have hsz2 : 27 = (p.norm 7).cells.size := rfl
  generalize (p.norm 7).cells = P at *
  have HB : Hid (Try.prog.built 32 [(0, .int .i64 7), (6, .int .i64 p.id), (7, p.ns.v)] = some P) := hB
  have HA : Hid (P.all (·.oneCell') = true) := hall
  have HS : Hid ((Try.prog.info? 32).map (·.size) = some P.size) := hsz
  have HS2 : Hid (27 = P.size) := hsz2
  clear hB hall hsz hsz2
  unfold PL.rcd SL.v
  have a1 := assert_no (t := 70) (x := 35) (v := .agg #[.int .i64 p.id, .slice p.ns.a p.ns.n p.ns.c]) (by simp) Try.underlying61 Try.zeroValue61
  have a2 := assert_no (t := 70) (x := 35) (v := .agg #[.int .i64 p.id, .slice p.ns.a p.ns.n p.ns.c]) (by simp) Try.underlying63 Try.zeroValue63
  have a3 := assert_no (t := 70) (x := 35) (v := .agg #[.int .i64 p.id, .slice p.ns.a p.ns.n p.ns.c]) (by simp) Try.underlying57 Try.zeroValue57
  have a4 := assert_no (t := 70) (x := 35) (v := .agg #[.int .i64 p.id, .slice p.ns.a p.ns.n p.ns.c]) (by simp) Try.underlying64 Try.zeroValue64
  have a5 := assert_no (t := 70) (x := 35) (v := .agg #[.int .i64 p.id, .slice p.ns.a p.ns.n p.ns.c]) (by simp) Try.underlying66 Try.zeroValue66
  have a6 := assert_no (t := 70) (x := 35) (v := .agg #[.int .i64 p.id, .slice p.ns.a p.ns.n p.ns.c]) (by simp) Try.underlying68 Try.zeroValue68
  have a7 := assert_yes (x := 35) (v := .agg #[.int .i64 p.id, .slice p.ns.a p.ns.n p.ns.c]) Try.underlying70
  go_enter Try.func9, Try.ntmps9
  go_upto_region 22 with fail
  iterate 13 go_step
  refine build_row rfl 32 _ rfl [(0, .int .i64 7), (6, .int .i64 p.id), (7, p.ns.v)] _ (by simp [Act.eval, SL.v]) HB.out ?_
  refine wpList_store_row rfl 32 _ _ rfl w.heap.size P rfl rfl 32 _ (at_alloc new0) HS.out HS2.out HA.out ?_
  go_wp2_with fail
  refine bodyPost_ret (results_cell_row Try.results9 _ _ w.heap.size 32 P (0, 0) _ rfl (set_row (at_alloc new0)) Try.underlying32 rfl HS.out) rfl ?_
  refine ⟨rfl, below_setRow ?_ (Nat.le_refl _)⟩
  go_grown
theorem built8 (p : PL) : Try.prog.built 32 [(0, .int .i64 8), (6, .int .i64 p.id)] = some (p.norm 8).cells := by kernel_rfl
set_option maxHeartbeats 1000000 in
set_option maxRecDepth 100000 in
theorem plainly8 (p : PL) (w : World) :
    Calls Try.prog 9 #[p.rcd 8] w fun e w' => e = .returned (.agg (p.norm 8).cells) ∧ Below w.heap.size w w' := by
  have hB := built8 p
  have hall := plain_all (p.norm 8)
  have hsz : (Try.prog.info? 32).map (·.size) = some (p.norm 8).cells.size := size32
  have hsz2 : 27 = (p.norm 8).cells.size := rfl
  generalize (p.norm 8).cells = P at *
  have HB : Hid (Try.prog.built 32 [(0, .int .i64 8), (6, .int .i64 p.id)] = some P) := hB
  have HA : Hid (P.all (·.oneCell') = true) := hall
  have HS : Hid ((Try.prog.info? 32).map (·.size) = some P.size) := hsz
  have HS2 : Hid (27 = P.size) := hsz2
  clear hB hall hsz hsz2
  unfold PL.rcd
  have a1 := assert_no (t := 71) (x := 35) (v := .agg #[.int .i64 p.id]) (by simp) Try.underlying61 Try.zeroValue61
  have a2 := assert_no (t := 71) (x := 35) (v := .agg #[.int .i64 p.id]) (by simp) Try.underlying63 Try.zeroValue63
  have a3 := assert_no (t := 71) (x := 35) (v := .agg #[.int .i64 p.id]) (by simp) Try.underlying57 Try.zeroValue57
  have a4 := assert_no (t := 71) (x := 35) (v := .agg #[.int .i64 p.id]) (by simp) Try.underlying64 Try.zeroValue64
  have a5 := assert_no (t := 71) (x := 35) (v := .agg #[.int .i64 p.id]) (by simp) Try.underlying66 Try.zeroValue66
  have a6 := assert_no (t := 71) (x := 35) (v := .agg #[.int .i64 p.id]) (by simp) Try.underlying68 Try.zeroValue68
  have a7 := assert_no (t := 71) (x := 35) (v := .agg #[.int .i64 p.id]) (by simp) Try.underlying70 Try.zeroValue70
  have a8 := assert_yes (x := 35) (v := .agg #[.int .i64 p.id]) Try.underlying71
  go_enter Try.func9, Try.ntmps9
  go_upto_region 25 with fail
  iterate 7 go_step
  refine build_row rfl 32 _ rfl [(0, .int .i64 8), (6, .int .i64 p.id)] _ (by simp [Act.eval]) HB.out ?_
  refine wpList_store_row rfl 32 _ _ rfl w.heap.size P rfl rfl 32 _ (at_alloc new0) HS.out HS2.out HA.out ?_
  go_wp2_with fail
  refine bodyPost_ret (results_cell_row Try.results9 _ _ w.heap.size 32 P (0, 0) _ rfl (set_row (at_alloc new0)) Try.underlying32 rfl HS.out) rfl ?_
  refine ⟨rfl, below_setRow ?_ (Nat.le_refl _)⟩
  go_grown
theorem built9 (p : PL) : Try.prog.built 32 [(0, .int .i64 9), (6, .int .i64 p.id), (2, .string p.nd)] = some (p.norm 9).cells := by kernel_rfl
set_option maxHeartbeats 1000000 in
set_option maxRecDepth 100000 in
theorem plainly9 (p : PL) (w : World) :
    Calls Try.prog 9 #[p.rcd 9] w fun e w' => e = .returned (.agg (p.norm 9).cells) ∧ Below w.heap.size w w' := by
  have hB := built9 p
  have hall := plain_all (p.norm 9)
  have hsz : (Try.prog.info? 32).map (·.size) = some (p.norm 9).cells.size := size32
  have hsz2 : 27 = (p.norm 9).cells.size := rfl
  generalize (p.norm 9).cells = P at *
  have HB : Hid (Try.prog.built 32 [(0, .int .i64 9), (6, .int .i64 p.id), (2, .string p.nd)] = some P) := hB
  have HA : Hid (P.all (·.oneCell') = true) := hall
  have HS : Hid ((Try.prog.info? 32).map (·.size) = some P.size) := hsz
  have HS2 : Hid (27 = P.size) := hsz2
  clear hB hall hsz hsz2
  unfold PL.rcd
  have a1 := assert_no (t := 73) (x := 35) (v := .agg #[.int .i64 p.id, .string p.nd]) (by simp) Try.underlying61 Try.zeroValue61
  have a2 := assert_no (t := 73) (x := 35) (v := .agg #[.int .i64 p.id, .string p.nd]) (by simp) Try.underlying63 Try.zeroValue63
  have a3 := assert_no (t := 73) (x := 35) (v := .agg #[.int .i64 p.id, .string p.nd]) (by simp) Try.underlying57 Try.zeroValue57
  have a4 := assert_no (t := 73) (x := 35) (v := .agg #[.int .i64 p.id, .string p.nd]) (by simp) Try.underlying64 Try.zeroValue64
  have a5 := assert_no (t := 73) (x := 35) (v := .agg #[.int .i64 p.id, .string p.nd]) (by simp) Try.underlying66 Try.zeroValue66
  have a6 := assert_no (t := 73) (x := 35) (v := .agg #[.int .i64 p.id, .string p.nd]) (by simp) Try.underlying68 Try.zeroValue68
  have a7 := assert_no (t := 73) (x := 35) (v := .agg #[.int .i64 p.id, .string p.nd]) (by simp) Try.underlying70 Try.zeroValue70
  have a8 := assert_no (t := 73) (x := 35) (v := .agg #[.int .i64 p.id, .string p.nd]) (by simp) Try.underlying71 Try.zeroValue71
  have a9 := assert_yes (x := 35) (v := .agg #[.int .i64 p.id, .string p.nd]) Try.underlying73
  go_enter Try.func9, Try.ntmps9
  go_upto_region 28 with fail
  iterate 13 go_step
  refine build_row rfl 32 _ rfl [(0, .int .i64 9), (6, .int .i64 p.id), (2, .string p.nd)] _ (by simp [Act.eval]) HB.out ?_
  refine wpList_store_row rfl 32 _ _ rfl w.heap.size P rfl rfl 32 _ (at_alloc new0) HS.out HS2.out HA.out ?_
  go_wp2_with fail
  refine bodyPost_ret (results_cell_row Try.results9 _ _ w.heap.size 32 P (0, 0) _ rfl (set_row (at_alloc new0)) Try.underlying32 rfl HS.out) rfl ?_
  refine ⟨rfl, below_setRow ?_ (Nat.le_refl _)⟩
  go_grown
theorem built10 (p : PL) : Try.prog.built 32 [(0, .int .i64 10), (6, .int .i64 p.id), (8, .int .i64 p.st)] = some (p.norm 10).cells := by kernel_rfl
set_option maxHeartbeats 1000000 in
set_option maxRecDepth 100000 in
theorem plainly10 (p : PL) (w : World) :
    Calls Try.prog 9 #[p.rcd 10] w fun e w' => e = .returned (.agg (p.norm 10).cells) ∧ Below w.heap.size w w' := by
  have hB := built10 p
  have hall := plain_all (p.norm 10)
  have hsz : (Try.prog.info? 32).map (·.size) = some (p.norm 10).cells.size := size32
  have hsz2 : 27 = (p.norm 10).cells.size := rfl
  generalize (p.norm 10).cells = P at *
  have HB : Hid (Try.prog.built 32 [(0, .int .i64 10), (6, .int .i64 p.id), (8, .int .i64 p.st)] = some P) := hB
  have HA : Hid (P.all (·.oneCell') = true) := hall
  have HS : Hid ((Try.prog.info? 32).map (·.size) = some P.size) := hsz
  have HS2 : Hid (27 = P.size) := hsz2
  clear hB hall hsz hsz2
  unfold PL.rcd
  have a1 := assert_no (t := 75) (x := 35) (v := .agg #[.int .i64 p.id, .int .i64 p.st]) (by simp) Try.underlying61 Try.zeroValue61
  have a2 := assert_no (t := 75) (x := 35) (v := .agg #[.int .i64 p.id, .int .i64 p.st]) (by simp) Try.underlying63 Try.zeroValue63
  have a3 := assert_no (t := 75) (x := 35) (v := .agg #[.int .i64 p.id, .int .i64 p.st]) (by simp) Try.underlying57 Try.zeroValue57
  have a4 := assert_no (t := 75) (x := 35) (v := .agg #[.int .i64 p.id, .int .i64 p.st]) (by simp) Try.underlying64 Try.zeroValue64
  have a5 := assert_no (t := 75) (x := 35) (v := .agg #[.int .i64 p.id, .int .i64 p.st]) (by simp) Try.underlying66 Try.zeroValue66
  have a6 := assert_no (t := 75) (x := 35) (v := .agg #[.int .i64 p.id, .int .i64 p.st]) (by simp) Try.underlying68 Try.zeroValue68
  have a7 := assert_no (t := 75) (x := 35) (v := .agg #[.int .i64 p.id, .int .i64 p.st]) (by simp) Try.underlying70 Try.zeroValue70
  have a8 := assert_no (t := 75) (x := 35) (v := .agg #[.int .i64 p.id, .int .i64 p.st]) (by simp) Try.underlying71 Try.zeroValue71
  have a9 := assert_no (t := 75) (x := 35) (v := .agg #[.int .i64 p.id, .int .i64 p.st]) (by simp) Try.underlying73 Try.zeroValue73
  have a10 := assert_yes (x := 35) (v := .agg #[.int .i64 p.id, .int .i64 p.st]) Try.underlying75
  go_enter Try.func9, Try.ntmps9
  go_upto_region 31 with fail
  iterate 13 go_step
  refine build_row rfl 32 _ rfl [(0, .int .i64 10), (6, .int .i64 p.id), (8, .int .i64 p.st)] _ (by simp [Act.eval]) HB.out ?_
  refine wpList_store_row rfl 32 _ _ rfl w.heap.size P rfl rfl 32 _ (at_alloc new0) HS.out HS2.out HA.out ?_
  go_wp2_with fail
  refine bodyPost_ret (results_cell_row Try.results9 _ _ w.heap.size 32 P (0, 0) _ rfl (set_row (at_alloc new0)) Try.underlying32 rfl HS.out) rfl ?_
  refine ⟨rfl, below_setRow ?_ (Nat.le_refl _)⟩
  go_grown
theorem built11 (p : PL) : Try.prog.built 32 [(0, .int .i64 11)] = some (p.norm 11).cells := by kernel_rfl
set_option maxHeartbeats 1000000 in
set_option maxRecDepth 100000 in
theorem plainly11 (p : PL) (w : World) :
    Calls Try.prog 9 #[p.rcd 11] w fun e w' => e = .returned (.agg (p.norm 11).cells) ∧ Below w.heap.size w w' := by
  have hB := built11 p
  have hall := plain_all (p.norm 11)
  have hsz : (Try.prog.info? 32).map (·.size) = some (p.norm 11).cells.size := size32
  have hsz2 : 27 = (p.norm 11).cells.size := rfl
  generalize (p.norm 11).cells = P at *
  have HB : Hid (Try.prog.built 32 [(0, .int .i64 11)] = some P) := hB
  have HA : Hid (P.all (·.oneCell') = true) := hall
  have HS : Hid ((Try.prog.info? 32).map (·.size) = some P.size) := hsz
  have HS2 : Hid (27 = P.size) := hsz2
  clear hB hall hsz hsz2
  unfold PL.rcd
  have a1 := assert_no (t := 59) (x := 35) (v := .agg #[]) (by simp) Try.underlying61 Try.zeroValue61
  have a2 := assert_no (t := 59) (x := 35) (v := .agg #[]) (by simp) Try.underlying63 Try.zeroValue63
  have a3 := assert_no (t := 59) (x := 35) (v := .agg #[]) (by simp) Try.underlying57 Try.zeroValue57
  have a4 := assert_no (t := 59) (x := 35) (v := .agg #[]) (by simp) Try.underlying64 Try.zeroValue64
  have a5 := assert_no (t := 59) (x := 35) (v := .agg #[]) (by simp) Try.underlying66 Try.zeroValue66
  have a6 := assert_no (t := 59) (x := 35) (v := .agg #[]) (by simp) Try.underlying68 Try.zeroValue68
  have a7 := assert_no (t := 59) (x := 35) (v := .agg #[]) (by simp) Try.underlying70 Try.zeroValue70
  have a8 := assert_no (t := 59) (x := 35) (v := .agg #[]) (by simp) Try.underlying71 Try.zeroValue71
  have a9 := assert_no (t := 59) (x := 35) (v := .agg #[]) (by simp) Try.underlying73 Try.zeroValue73
  have a10 := assert_no (t := 59) (x := 35) (v := .agg #[]) (by simp) Try.underlying75 Try.zeroValue75
  have a11 := assert_yes (x := 35) (v := .agg #[]) Try.underlying59
  go_enter Try.func9, Try.ntmps9
  go_upto_region 34 with fail
  iterate 1 go_step
  refine build_row rfl 32 _ rfl [(0, .int .i64 11)] _ (by simp [Act.eval]) HB.out ?_
  refine wpList_store_row rfl 32 _ _ rfl w.heap.size P rfl rfl 32 _ (at_alloc new0) HS.out HS2.out HA.out ?_
  go_wp2_with fail
  refine bodyPost_ret (results_cell_row Try.results9 _ _ w.heap.size 32 P (0, 0) _ rfl (set_row (at_alloc new0)) Try.underlying32 rfl HS.out) rfl ?_
  refine ⟨rfl, below_setRow ?_ (Nat.le_refl _)⟩
  go_grown
theorem built0 (p : PL) : Try.prog.built 32 [] = some (p.norm 0).cells := by kernel_rfl
set_option maxHeartbeats 1000000 in
set_option maxRecDepth 100000 in
theorem plainly0 (p : PL) (w : World) :
    Calls Try.prog 9 #[.nilIface] w fun e w' => e = .returned (.agg (p.norm 0).cells) ∧ Below w.heap.size w w' := by
  have hB := built0 p
  have hall := plain_all (p.norm 0)
  have hsz : (Try.prog.info? 32).map (·.size) = some (p.norm 0).cells.size := size32
  have hsz2 : 27 = (p.norm 0).cells.size := rfl
  generalize (p.norm 0).cells = P at *
  have HB : Hid (Try.prog.built 32 [] = some P) := hB
  have HA : Hid (P.all (·.oneCell') = true) := hall
  have HS : Hid ((Try.prog.info? 32).map (·.size) = some P.size) := hsz
  have HS2 : Hid (27 = P.size) := hsz2
  clear hB hall hsz hsz2
  have a1 := assert_nil (x := 35) Try.underlying61 Try.zeroValue61
  have a2 := assert_nil (x := 35) Try.underlying63 Try.zeroValue63
  have a3 := assert_nil (x := 35) Try.underlying57 Try.zeroValue57
  have a4 := assert_nil (x := 35) Try.underlying64 Try.zeroValue64
  have a5 := assert_nil (x := 35) Try.underlying66 Try.zeroValue66
  have a6 := assert_nil (x := 35) Try.underlying68 Try.zeroValue68
  have a7 := assert_nil (x := 35) Try.underlying70 Try.zeroValue70
  have a8 := assert_nil (x := 35) Try.underlying71 Try.zeroValue71
  have a9 := assert_nil (x := 35) Try.underlying73 Try.zeroValue73
  have a10 := assert_nil (x := 35) Try.underlying75 Try.zeroValue75
  have a11 := assert_nil (x := 35) Try.underlying59 Try.zeroValue59
  go_enter Try.func9, Try.ntmps9
  go_upto_region 35 with fail
  iterate 1 go_step
  refine build_row rfl 32 _ rfl [] _ (by simp [Act.eval]) HB.out ?_
  refine wpList_store_row rfl 32 _ _ rfl w.heap.size P rfl rfl 32 _ new0 HS.out HS2.out HA.out ?_
  go_wp2_with fail
  refine bodyPost_ret (results_cell_row Try.results9 _ _ w.heap.size 32 P (0, 0) _ rfl (set_row new0) Try.underlying32 rfl HS.out) rfl ?_
  refine ⟨rfl, below_setRow ?_ (Nat.le_refl _)⟩
  go_grown

end Go.Proofs.Ytnkkiepoljbhlaa
