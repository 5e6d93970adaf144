/-
  formed of a submission (kind 5).
-/
import Derived.Test.YtnkkiepoljbhlaaFmm
namespace Go.Proofs.Ytnkkiepoljbhlaa
open Go.RowKit

set_option maxHeartbeats 1000000 in
set_option maxRecDepth 100000 in
theorem formed5 (j : JB) (r : Bool) (w : World) (HJ : Hid (∀ W, Below w.heap.size w W → Calls Try.prog 43 #[.agg j.cells] W fun e w' => e = .returned (.bool r) ∧ Below W.heap.size W w')) :
    Calls Try.prog 21 #[.iface 66 (.agg j.cells)] w fun e w' => e = .returned (.bool r) ∧ Below w.heap.size w w' := by
  have a1 := assert_no (t := 66) (x := 35) (v := .agg j.cells) (by simp) Try.underlying61 Try.zeroValue61
  have a2 := assert_no (t := 66) (x := 35) (v := .agg j.cells) (by simp) Try.underlying63 Try.zeroValue63
  have a3 := assert_no (t := 66) (x := 35) (v := .agg j.cells) (by simp) Try.underlying57 Try.zeroValue57
  have a4 := assert_no (t := 66) (x := 35) (v := .agg j.cells) (by simp) Try.underlying64 Try.zeroValue64
  have a5 := assert_yes (x := 35) (v := .agg j.cells) Try.underlying66
  unfold JB.cells SL.v at *
  go_enter Try.func21, Try.ntmps21
  go_wp2_with (go_at_call 43; refine (HJ.out _ ((Below.refl _ w).alloc (Nat.le_refl _) _)).mono ?_; rintro e w1 ⟨rfl, b1⟩)
  go_ret
  refine ⟨rfl, below_from ?_ b1 (by simp)⟩
  go_grown

end Go.Proofs.Ytnkkiepoljbhlaa
