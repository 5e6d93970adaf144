/-
  The contracts of api.Make.
-/
import Derived.Test.YtnkkiepoljbhlaaRec
import Derived.WalkKit
import Derived.WalkSpells
import Derived.Handy
import Derived.Outline
namespace Go.Proofs.Ytnkkiepoljbhlaa
open Go.RowKit

set_option maxHeartbeats 1000000 in
set_option maxRecDepth 100000 in
theorem make1 (p : PL) (h : p.kind = 1) (w : World) :
    Calls Try.prog 8 #[.agg p.cells] w fun e w' => e = .returned (p.rcd 1) ∧ Below w.heap.size w w' := by
  unfold PL.rcd PL.cells SL.v
  rw [h]
  clear h
  go_enter Try.func8, Try.ntmps8
  go_wp2_with fail
  go_ret
  exact ⟨rfl, by go_grown⟩
set_option maxHeartbeats 1000000 in
set_option maxRecDepth 100000 in
theorem make2 (p : PL) (h : p.kind = 2) (w : World) :
    Calls Try.prog 8 #[.agg p.cells] w fun e w' => e = .returned (p.rcd 2) ∧ Below w.heap.size w w' := by
  unfold PL.rcd PL.cells SL.v
  rw [h]
  clear h
  go_enter Try.func8, Try.ntmps8
  go_wp2_with fail
  go_ret
  exact ⟨rfl, by go_grown⟩
set_option maxHeartbeats 1000000 in
set_option maxRecDepth 100000 in
theorem make3 (p : PL) (h : p.kind = 3) (w : World) :
    Calls Try.prog 8 #[.agg p.cells] w fun e w' => e = .returned (p.rcd 3) ∧ Below w.heap.size w w' := by
  unfold PL.rcd PL.cells SL.v
  rw [h]
  clear h
  go_enter Try.func8, Try.ntmps8
  go_wp2_with fail
  go_ret
  exact ⟨rfl, by go_grown⟩
set_option maxHeartbeats 1000000 in
set_option maxRecDepth 100000 in
theorem make4 (p : PL) (h : p.kind = 4) (w : World) :
    Calls Try.prog 8 #[.agg p.cells] w fun e w' => e = .returned (p.rcd 4) ∧ Below w.heap.size w w' := by
  unfold PL.rcd PL.cells SL.v
  rw [h]
  clear h
  go_enter Try.func8, Try.ntmps8
  go_wp2_with fail
  go_ret
  exact ⟨rfl, by go_grown⟩
set_option maxHeartbeats 1000000 in
set_option maxRecDepth 100000 in
theorem make5 (p : PL) (h : p.kind = 5) (w : World) :
    Calls Try.prog 8 #[.agg p.cells] w fun e w' => e = .returned (p.rcd 5) ∧ Below w.heap.size w w' := by
  unfold PL.rcd PL.cells JB.cells SL.v
  rw [h]
  clear h
  go_enter Try.func8, Try.ntmps8
  go_wp2_with fail
  go_ret
  exact ⟨rfl, by go_grown⟩
set_option maxHeartbeats 1000000 in
set_option maxRecDepth 100000 in
theorem make6 (p : PL) (h : p.kind = 6) (w : World) :
    Calls Try.prog 8 #[.agg p.cells] w fun e w' => e = .returned (p.rcd 6) ∧ Below w.heap.size w w' := by
  unfold PL.rcd PL.cells SL.v
  rw [h]
  clear h
  go_enter Try.func8, Try.ntmps8
  go_wp2_with fail
  go_ret
  exact ⟨rfl, by go_grown⟩
set_option maxHeartbeats 1000000 in
set_option maxRecDepth 100000 in
theorem make7 (p : PL) (h : p.kind = 7) (w : World) :
    Calls Try.prog 8 #[.agg p.cells] w fun e w' => e = .returned (p.rcd 7) ∧ Below w.heap.size w w' := by
  unfold PL.rcd PL.cells SL.v
  rw [h]
  clear h
  go_enter Try.func8, Try.ntmps8
  go_wp2_with fail
  go_ret
  exact ⟨rfl, by go_grown⟩
set_option maxHeartbeats 1000000 in
set_option maxRecDepth 100000 in
theorem make8 (p : PL) (h : p.kind = 8) (w : World) :
    Calls Try.prog 8 #[.agg p.cells] w fun e w' => e = .returned (p.rcd 8) ∧ Below w.heap.size w w' := by
  unfold PL.rcd PL.cells SL.v
  rw [h]
  clear h
  go_enter Try.func8, Try.ntmps8
  go_wp2_with fail
  go_ret
  exact ⟨rfl, by go_grown⟩
set_option maxHeartbeats 1000000 in
set_option maxRecDepth 100000 in
theorem make9 (p : PL) (h : p.kind = 9) (w : World) :
    Calls Try.prog 8 #[.agg p.cells] w fun e w' => e = .returned (p.rcd 9) ∧ Below w.heap.size w w' := by
  unfold PL.rcd PL.cells SL.v
  rw [h]
  clear h
  go_enter Try.func8, Try.ntmps8
  go_wp2_with fail
  go_ret
  exact ⟨rfl, by go_grown⟩
set_option maxHeartbeats 1000000 in
set_option maxRecDepth 100000 in
theorem make10 (p : PL) (h : p.kind = 10) (w : World) :
    Calls Try.prog 8 #[.agg p.cells] w fun e w' => e = .returned (p.rcd 10) ∧ Below w.heap.size w w' := by
  unfold PL.rcd PL.cells SL.v
  rw [h]
  clear h
  go_enter Try.func8, Try.ntmps8
  go_wp2_with fail
  go_ret
  exact ⟨rfl, by go_grown⟩
set_option maxHeartbeats 1000000 in
set_option maxRecDepth 100000 in
theorem make11 (p : PL) (h : p.kind = 11) (w : World) :
    Calls Try.prog 8 #[.agg p.cells] w fun e w' => e = .returned (p.rcd 11) ∧ Below w.heap.size w w' := by
  unfold PL.rcd PL.cells SL.v
  rw [h]
  clear h
  go_enter Try.func8, Try.ntmps8
  go_wp2_with fail
  go_ret
  exact ⟨rfl, by go_grown⟩
set_option maxHeartbeats 1000000 in
set_option maxRecDepth 100000 in
theorem make0 (p : PL) (h : ¬ (1 ≤ p.kind ∧ p.kind ≤ 11)) (w : World) :
    Calls Try.prog 8 #[.agg p.cells] w fun e w' => e = .returned .nilIface ∧ Below w.heap.size w w' := by
  unfold PL.cells SL.v
  generalize p.kind = k at *
  have h1 : (k == 1) = false := by simp; omega
  have h2 : (k == 2) = false := by simp; omega
  have h3 : (k == 3) = false := by simp; omega
  have h4 : (k == 4) = false := by simp; omega
  have h5 : (k == 5) = false := by simp; omega
  have h6 : (k == 6) = false := by simp; omega
  have h7 : (k == 7) = false := by simp; omega
  have h8 : (k == 8) = false := by simp; omega
  have h9 : (k == 9) = false := by simp; omega
  have h10 : (k == 10) = false := by simp; omega
  have h11 : (k == 11) = false := by simp; omega
  clear h
  go_enter Try.func8, Try.ntmps8
  go_wp2_with fail
  go_ret
  exact ⟨rfl, by go_grown⟩

end Go.Proofs.Ytnkkiepoljbhlaa
