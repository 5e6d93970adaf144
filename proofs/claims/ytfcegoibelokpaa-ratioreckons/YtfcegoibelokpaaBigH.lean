/-
  The contract of the reference's zero.
-/
import Derived.Test.YtfcegoibelokpaaBigG
namespace Go.Proofs.Ytfcegoibelokpaa
open Go.RowKit Big

theorem built48 : (Try.prog.built 48 []) = some (Array.replicate 256 (.bool false)) := by kernel_rfl

theorem build_zero {ops : Array Oper} {rest : List Oper} {o : Oper} {a : Act} {w : World} {Q : Exit → Act → World → Prop} (hg : o.guard = none) (ho : o.op = .build 48 #[])
    (h : wpList Try.prog ops Q rest (a.put o.dst (.agg (bigR 0))) w) : wpList Try.prog ops Q (o :: rest) a w := by
  have e : ((#[] : Array (Nat × Operand)).map (fun (i, x) => (i, a.eval x))).toList = [] := by simp
  refine wpList_build hg 48 #[] ho ?_ ?_
  · rw [e, built48]; rfl
  · rw [e, built48, Option.getD_some, ← bigR_zero]; exact h

set_option maxHeartbeats 1000000 in
set_option maxRecDepth 100000 in
theorem zero_any (x : W) (w : World) :
    Calls Try.prog 48 #[.agg (bigR x)] w fun e w' => e = .returned (.bool (decide (x.toNat = 0))) ∧ Below w.heap.size w w' := by
  have HC : Hid (∀ (w : World), Calls Try.prog 24 #[.agg (bigR x), .agg (bigR 0)] w fun e w' => e = .returned (.int .i64 (Big.cmp x 0)) ∧ Below w.heap.size w w') := fun w => bigcmp_any x 0 w
  have HE : Hid ((Big.cmp x 0 == 0) = decide (x.toNat = 0)) := by
    unfold Big.cmp
    by_cases h : x.toNat = 0
    · exact (show ((if x.toNat < (0 : W).toNat then (-1 : Int) else if (0 : W).toNat < x.toNat then 1 else 0) == 0) = decide (x.toNat = 0) by simp [h])
    · exact (show ((if x.toNat < (0 : W).toNat then (-1 : Int) else if (0 : W).toNat < x.toNat then 1 else 0) == 0) = decide (x.toNat = 0) by
        have h0 : (0 : W).toNat = 0 := rfl
        rw [h0, if_neg (by omega), if_pos (by omega)]
        simp [h])
  generalize Big.cmp x 0 = o at *
  have r0 : Row (w.alloc (.cells (bigR x) 48)) w.heap.size (bigR x) := row_new w _ _ rfl
  go_enter Try.func48, Try.ntmps48
  go_upto_region 1 with fail
  go_wp2_with (first
    | refine wpList_load_row rfl 48 _ rfl w.heap.size rfl 48 (bigR x) (0, 0) _ r0 Try.underlying48 rfl (size48 _) ?_
    | refine build_zero rfl rfl ?_
    | (go_at_call 24; refine (HC.out _).mono ?_; rintro e w1 ⟨rfl, b1⟩))
  go_ret
  exact ⟨congrArg (fun b => Ending.returned (Value.bool b)) HE.out, below_from ((Below.refl _ w).alloc (Nat.le_refl _) _) b1 (by simp)⟩

end Go.Proofs.Ytfcegoibelokpaa
