/-
  A graph without jobs; a job is laid into it.
-/
import Derived.Test.YtodldfgoieikcaaMg
import Derived.Test.YtodldfgoieikcaaMd
namespace Go.Proofs.Ytodldfgoieikcaa
open Go.RowKit Go.Maps

@[irreducible] def zA : Array Value := (List.replicate 101 (Value.int .u8 0 :: List.replicate 101 (.bool false))).flatten.toArray
set_option maxRecDepth 100000 in
theorem built54 : (Try.prog.built 54 []) = some (List.replicate 101 (Value.int .u8 0 :: List.replicate 101 (.bool false))).flatten.toArray := by kernel_rfl
theorem built54z : (Try.prog.built 54 []) = some zA := by rw [built54]; unfold zA; rfl
theorem flat_rep {L : List Value} : ∀ (m i j : Nat), i < m → j < L.length → (List.replicate m L).flatten[i * L.length + j]? = L[j]?
  | 0, i, j, h, _ => absurd h (by omega)
  | m + 1, 0, j, _, hj => by
    rw [List.replicate_succ, List.flatten_cons, Nat.zero_mul, Nat.zero_add, List.getElem?_append_left hj]
  | m + 1, i + 1, j, hi, hj => by
    rw [List.replicate_succ, List.flatten_cons, List.getElem?_append_right (by rw [Nat.succ_mul]; omega), ← flat_rep m i j (by omega) hj]
    congr 1
    rw [Nat.succ_mul]
    omega
def g0 : GS := ⟨fun _ => 0, fun _ _ => false⟩
theorem flat_len {L : List Value} : ∀ m : Nat, (List.replicate m L).flatten.length = m * L.length
  | 0 => by rw [Nat.zero_mul]; rfl
  | m + 1 => by rw [List.replicate_succ, List.flatten_cons, List.length_append, flat_len m, Nat.succ_mul, Nat.add_comm]
theorem row102 : (Value.int .u8 0 :: List.replicate 101 (Value.bool false)).length = 102 := by rw [List.length_cons, List.length_replicate]
theorem zA_size : zA.size = 10302 := by unfold zA; rw [List.size_toArray, flat_len, row102]
theorem zA_st (i : Nat) (h : i < 101) : zA[i * 102]? = some (.int .u8 0) := by
  have := flat_rep (L := Value.int .u8 0 :: List.replicate 101 (.bool false)) 101 i 0 h (by rw [row102]; omega)
  rw [row102, Nat.add_zero] at this
  unfold zA
  rw [List.getElem?_toArray, this]
  rfl
theorem zA_ps (i j : Nat) (h : i < 101) (hj : j < 101) : zA[i * 102 + 1 + j]? = some (.bool false) := by
  have := flat_rep (L := Value.int .u8 0 :: List.replicate 101 (.bool false)) 101 i (j + 1) h (by rw [row102]; omega)
  rw [row102] at this
  unfold zA
  rw [List.getElem?_toArray, show i * 102 + 1 + j = i * 102 + (j + 1) by omega, this, List.getElem?_cons_succ, List.getElem?_replicate, if_pos hj]
theorem gr_new (w : World) : Gr (w.alloc (.cells zA 54)) w.heap.size g0 := by
  have h : (w.alloc (.cells zA 54)).heap[w.heap.size]? = some (.cells zA 54 (0, 0)) := new0
  exact ⟨⟨_, h, zA_size⟩, fun i hi => (cell_of h).trans (zA_st i hi), fun i j hi hj => (cell_of h).trans (zA_ps i j hi hj)⟩
theorem build_g0 {ops : Array Oper} {rest : List Oper} {o : Oper} {a : Act} {w : World} {Q : Exit → Act → World → Prop} (hg : o.guard = none) (ho : o.op = .build 54 #[])
    (h : wpList Try.prog ops Q rest (a.put o.dst (.agg zA)) w) : wpList Try.prog ops Q (o :: rest) a w := by
  have e : ((#[] : Array (Nat × Operand)).map (fun (i, x) => (i, a.eval x))).toList = [] := by simp
  refine wpList_build hg 54 #[] ho ?_ ?_
  · rw [e, built54z]; rfl
  · rw [e, built54z, Option.getD_some]; exact h
set_option maxHeartbeats 1000000 in
set_option maxRecDepth 100000 in
theorem new_any (w : World) : Calls Try.prog 11 #[] w fun e w' => e = .returned (.pointer (some ⟨w.heap.size, 0, none⟩)) ∧ w' = w.alloc (.cells zA 54) := by
  go_enter Try.func11, Try.ntmps11
  go_wp2_with (refine build_g0 rfl rfl ?_)
  go_ret
  exact ⟨rfl, rfl⟩

/-- a job's cells -/
@[irreducible] def jA (s : Nat → Bool) : Array Value := #[.int .u8 1] ++ sA s
theorem jA_list (s : Nat → Bool) : (jA s).toList = .int .u8 1 :: sL s := by unfold jA; rw [Array.toList_append, sA_toList]; rfl
theorem jA_size (s : Nat → Bool) : (jA s).size = 102 := by unfold jA; rw [Array.size_append, sA_size]; rfl
theorem jA_one (s : Nat → Bool) : (jA s).all (·.oneCell') = true := by
  unfold jA
  rw [Array.all_append, sA_one]
  simp [Value.oneCell']
set_option maxRecDepth 100000 in
theorem built51 (s : Nat → Bool) : (Try.prog.built 51 [(0, .int .u8 1), (1, .agg ((List.range 101).map fun i => Value.bool (s i)).toArray)]) = some (Value.int .u8 1 :: ((List.range 101).map fun i => Value.bool (s i))).toArray := by kernel_rfl
theorem build_j (s : Nat → Bool) : ∀ w, (Instr.build 51 #[(0, .int .u8 1), (1, .agg (sA s))]).run Try.prog w = .ok (.agg (jA s)) w := fun w => by
  refine run_build w 51 _ _ ?_
  show Try.prog.built 51 [(0, .int .u8 1), (1, .agg (sA s))] = some (jA s)
  have := built51 s
  have e : ((List.range 101).map fun i => Value.bool (s i)).toArray = sA s := sA_list s
  rw [e] at this
  rw [this]
  congr 1
  have e2 := jA_list s
  apply Array.ext'
  rw [e2]
  rfl
end Go.Proofs.Ytodldfgoieikcaa
