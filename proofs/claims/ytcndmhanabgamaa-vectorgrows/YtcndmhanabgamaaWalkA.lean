/-
  The contracts of Formed, the program's and the reference's.
-/
import Derived.Test.YtcndmhanabgamaaVec
import Derived.WalkKit
import Derived.WalkSpells
import Derived.WalkSmall
import Derived.Deep.QuietTactic
import Derived.BigQuiet
import Derived.Handy
import Derived.Laws.ResultCell
namespace Go.Proofs.Ytcndmhanabgamaa
open Go.RowKit

theorem below_drewN {B : Nat} {a w : World} (h : Below B a w) (n : Nat) : Below B a (w.drewN n) := ⟨h.os, h.tape, h.output, h.size, h.block⟩

theorem ix0 (a b c d : Value) : ∀ w, (Instr.index 23 (.agg #[a, b, c, d]) (.int .i64 0)).run Try.prog w = .ok a w := fun _ => by kernel_rfl
theorem ix1 (a b c d : Value) : ∀ w, (Instr.index 23 (.agg #[a, b, c, d]) (.int .i64 1)).run Try.prog w = .ok b w := fun _ => by kernel_rfl
theorem ix2 (a b c d : Value) : ∀ w, (Instr.index 23 (.agg #[a, b, c, d]) (.int .i64 2)).run Try.prog w = .ok c w := fun _ => by kernel_rfl
theorem ix3 (a b c d : Value) : ∀ w, (Instr.index 23 (.agg #[a, b, c, d]) (.int .i64 3)).run Try.prog w = .ok d w := fun _ => by kernel_rfl

set_option maxHeartbeats 1000000 in
theorem formed_any (a b c d : Int) (w : World) :
    Calls Try.prog 10 #[.agg #[.int .i64 a, .int .i64 b, .int .i64 c, .int .i64 d]] w fun e w' => e = .returned (.bool (fm a b c d)) ∧ Below w.heap.size w w' := by
  have i0 := ix0 (.int .i64 a) (.int .i64 b) (.int .i64 c) (.int .i64 d)
  have i1 := ix1 (.int .i64 a) (.int .i64 b) (.int .i64 c) (.int .i64 d)
  have i2 := ix2 (.int .i64 a) (.int .i64 b) (.int .i64 c) (.int .i64 d)
  have i3 := ix3 (.int .i64 a) (.int .i64 b) (.int .i64 c) (.int .i64 d)
  go_enter Try.func10, Try.ntmps10
  go_wp2_with fail
  go_rounds 5
  all_goals (go_returns; refine ⟨congrArg (fun b => Ending.returned (Value.bool b)) ?_, by go_grown⟩)
  all_goals (clear i0 i1 i2 i3; unfold fm okI; simp; omega)

set_option maxHeartbeats 1000000 in
theorem rformed_any (a b c d : Int) (w : World) :
    Calls Try.prog 11 #[.agg #[.int .i64 a, .int .i64 b, .int .i64 c, .int .i64 d]] w fun e w' => e = .returned (.bool (fm a b c d)) ∧ Below w.heap.size w w' := by
  go_enter Try.func11, Try.ntmps11
  go_wp2_with fail
  go_rounds 5
  all_goals (go_returns; refine ⟨congrArg (fun b => Ending.returned (Value.bool b)) ?_, by go_grown⟩)
  all_goals (unfold fm okI; simp; omega)

set_option maxHeartbeats 2000000 in
theorem fits_any (a b c d e f g h : Int) (w : World) :
    Calls Try.prog 12 #[.agg #[.int .i64 a, .int .i64 b, .int .i64 c, .int .i64 d], .agg #[.int .i64 e, .int .i64 f, .int .i64 g, .int .i64 h]] w fun r w' => r = .returned (.bool (ft a b c d e f g h)) ∧ Below w.heap.size w w' := by
  have i0 := ix0 (.int .i64 a) (.int .i64 b) (.int .i64 c) (.int .i64 d)
  have i1 := ix1 (.int .i64 a) (.int .i64 b) (.int .i64 c) (.int .i64 d)
  have i2 := ix2 (.int .i64 a) (.int .i64 b) (.int .i64 c) (.int .i64 d)
  have i3 := ix3 (.int .i64 a) (.int .i64 b) (.int .i64 c) (.int .i64 d)
  go_enter Try.func12, Try.ntmps12
  go_wp2_with fail
  go_rounds 5
  all_goals (go_returns; refine ⟨congrArg (fun b => Ending.returned (Value.bool b)) ?_, by go_grown⟩)
  all_goals (clear i0 i1 i2 i3; unfold ft; simp; omega)

set_option maxHeartbeats 2000000 in
theorem rfits_any (a b c d e f g h : Int) (w : World) :
    Calls Try.prog 13 #[.agg #[.int .i64 a, .int .i64 b, .int .i64 c, .int .i64 d], .agg #[.int .i64 e, .int .i64 f, .int .i64 g, .int .i64 h]] w fun r w' => r = .returned (.bool (ft a b c d e f g h)) ∧ Below w.heap.size w w' := by
  go_enter Try.func13, Try.ntmps13
  go_wp2_with fail
  all_goals (go_returns; refine ⟨congrArg (fun b => Ending.returned (Value.bool b)) ?_, by go_grown⟩)
  all_goals (unfold ft; rw [Bool.eq_iff_iff]; simp; omega)

set_option maxHeartbeats 4000000 in
theorem rcmp_any (a b c d e f g h : Int) (w : World) :
    Calls Try.prog 15 #[.agg #[.int .i64 a, .int .i64 b, .int .i64 c, .int .i64 d], .agg #[.int .i64 e, .int .i64 f, .int .i64 g, .int .i64 h]] w fun r w' => r = .returned (.int .i64 (cm a b c d e f g h)) ∧ Below w.heap.size w w' := by
  go_enter Try.func15, Try.ntmps15
  go_wp2_with fail
  refine wp_loop_rounds 5 ?_
  repeat any_goals first | (rw [rounds_succ]; go_wp2_with fail) | (go_quiet (fail); go_wp2_with fail)
  all_goals (go_returns; refine ⟨congrArg (fun b => Ending.returned (Value.int .i64 b)) ?_, ?_⟩)
  all_goals first
    | (unfold cm o1; (repeat' split) <;> omega)
    | (repeat' (first | exact ((Below.refl _ w).alloc (Nat.le_refl _) _).alloc (by simp) _ | refine below_drewN ?_ _))

end Go.Proofs.Ytcndmhanabgamaa
