/-
  The contracts of cmp.Compare at int64, of slices.Compare at two vectors, of the program's Cmp.
-/
import Derived.Test.YtcndmhanabgamaaWalkA
namespace Go.Proofs.Ytcndmhanabgamaa
open Go.RowKit

def ordI (a b : Int) : Int := if a < b then -1 else if b < a then 1 else 0

set_option maxHeartbeats 400000 in
theorem isNaNi_any (a : Int) (w : World) : Calls Try.prog 37 #[.int .i64 a] w fun e w' => e = .returned (.bool false) ∧ w' = w := by
  go_enter Try.func37, Try.ntmps37
  go_wp2
  go_ret
  exact ⟨by simp, rfl⟩

set_option maxHeartbeats 400000 in
theorem comparei_any (a b : Int) (w : World) : Calls Try.prog 32 #[.int .i64 a, .int .i64 b] w fun e w' => e = .returned (.int .i64 (ordI a b)) ∧ w' = w := by
  go_enter Try.func32, Try.ntmps32
  go_wp2_with (go_at_call 37; refine (isNaNi_any _ _).mono ?_; rintro e w' ⟨rfl, rfl⟩)
  · rename_i h; go_ret; rw [ordI, if_pos h]; exact ⟨rfl, rfl⟩
  · rename_i h h2; go_ret; rw [ordI, if_neg (by omega), if_pos (by omega)]; exact ⟨rfl, rfl⟩
  · rename_i h h2; go_ret; rw [ordI, if_neg (by omega), if_neg (by omega)]; exact ⟨rfl, rfl⟩

theorem cm_ord (a b c d e f g h : Int) : cm a b c d e f g h = if ordI a e ≠ 0 then ordI a e else if ordI b f ≠ 0 then ordI b f else if ordI c g ≠ 0 then ordI c g else ordI d h := by
  unfold cm o1 ordI
  (repeat' split) <;> simp_all <;> omega

set_option maxHeartbeats 2000000 in
theorem scmp_any (a b c d e f g h : Int) (p q : Nat) (w : World)
    (a0 : w.cell? ⟨p, 0, none⟩ = some (.int .i64 a)) (a1 : w.cell? ⟨p, 1, none⟩ = some (.int .i64 b)) (a2 : w.cell? ⟨p, 2, none⟩ = some (.int .i64 c)) (a3 : w.cell? ⟨p, 3, none⟩ = some (.int .i64 d))
    (b0 : w.cell? ⟨q, 0, none⟩ = some (.int .i64 e)) (b1 : w.cell? ⟨q, 1, none⟩ = some (.int .i64 f)) (b2 : w.cell? ⟨q, 2, none⟩ = some (.int .i64 g)) (b3 : w.cell? ⟨q, 3, none⟩ = some (.int .i64 h)) :
    Calls Try.prog 25 #[.slice (some ⟨p, 0, none⟩) 4 4, .slice (some ⟨q, 0, none⟩) 4 4] w fun x w' => x = .returned (.int .i64 (cm a b c d e f g h)) ∧ w' = w := by
  have HR : Hid (cm a b c d e f g h = if ordI a e ≠ 0 then ordI a e else if ordI b f ≠ 0 then ordI b f else if ordI c g ≠ 0 then ordI c g else ordI d h) := cm_ord a b c d e f g h
  generalize cm a b c d e f g h = r at *
  have HC : Hid (∀ (x y : Int) (w : World), Calls Try.prog 32 #[.int .i64 x, .int .i64 y] w fun e w' => e = .returned (.int .i64 (ordI x y)) ∧ w' = w) := fun x y w => comparei_any x y w
  go_enter Try.func25, Try.ntmps25
  go_wp2_with fail
  refine wp_loop_rounds 5 ?_
  repeat any_goals (rw [rounds_succ]; go_wp2_with (go_at_call 32; refine (HC.out _ _ _).mono ?_; rintro e w' ⟨rfl, rfl⟩))
  all_goals (go_returns; refine ⟨congrArg (fun b => Ending.returned (Value.int .i64 b)) ?_, rfl⟩)
  all_goals (rw [HR.out]; clear HR HC; (repeat' split) <;> simp_all)

theorem new0 {w : World} {o : Obj} : (w.alloc o).heap[w.heap.size]? = some o := Go.heap_alloc_new w _
theorem at_alloc {w : World} {n : Nat} {o x : Obj} (h : w.heap[n]? = some x) : (w.alloc o).heap[n]? = some x := (Below.heap_alloc w o n (Array.getElem?_eq_some_iff.1 h).1).trans h
theorem at_drew {w : World} {n : Nat} {x : Obj} (h : w.heap[n]? = some x) : w.drew.heap[n]? = some x := h
theorem at_drewN {w : World} {n k : Nat} {x : Obj} (h : w.heap[n]? = some x) : (w.drewN k).heap[n]? = some x := h
theorem new1 {w : World} {o o' : Obj} : ((w.alloc o).alloc o').heap[w.heap.size + 1]? = some o' := by
  have := new0 (w := w.alloc o) (o := o')
  rwa [World.size_alloc] at this
theorem first0 {w : World} {A B : Obj} : ((w.alloc A).alloc B).heap[w.heap.size]? = some A := at_alloc new0
theorem first1 {w : World} {A B : Obj} : ((w.alloc A).alloc B).heap[w.heap.size + 1]? = some B := new1
theorem below_from {B : Nat} {w W w1 : World} (h : Below B w W) (b : Below W.heap.size W w1) (hB : B ≤ W.heap.size) : Below B w w1 := h.trans (b.mono hB)

set_option maxHeartbeats 1000000 in
theorem cmp_any (a b c d e f g h : Int) (w : World) :
    Calls Try.prog 14 #[.agg #[.int .i64 a, .int .i64 b, .int .i64 c, .int .i64 d], .agg #[.int .i64 e, .int .i64 f, .int .i64 g, .int .i64 h]] w fun r w' => r = .returned (.int .i64 (cm a b c d e f g h)) ∧ Below w.heap.size w w' := by
  have HC : Hid (∀ (p q : Nat) (w : World), w.cell? ⟨p, 0, none⟩ = some (.int .i64 a) → w.cell? ⟨p, 1, none⟩ = some (.int .i64 b) → w.cell? ⟨p, 2, none⟩ = some (.int .i64 c) → w.cell? ⟨p, 3, none⟩ = some (.int .i64 d) → w.cell? ⟨q, 0, none⟩ = some (.int .i64 e) → w.cell? ⟨q, 1, none⟩ = some (.int .i64 f) → w.cell? ⟨q, 2, none⟩ = some (.int .i64 g) → w.cell? ⟨q, 3, none⟩ = some (.int .i64 h) →
      Calls Try.prog 25 #[.slice (some ⟨p, 0, none⟩) 4 4, .slice (some ⟨q, 0, none⟩) 4 4] w fun x w' => x = .returned (.int .i64 (cm a b c d e f g h)) ∧ w' = w) := fun p q w => scmp_any a b c d e f g h p q w
  generalize cm a b c d e f g h = r at *
  go_enter Try.func14, Try.ntmps14
  go_wp2_with fail
  go_quiet ((go_at_call 25; exact Calls.quiet_of_same (HC.out _ _ _ (Lib.cell_of_heap (at_drewN first0) 0) (Lib.cell_of_heap (at_drewN first0) 1) (Lib.cell_of_heap (at_drewN first0) 2) (Lib.cell_of_heap (at_drewN first0) 3) (Lib.cell_of_heap (at_drewN first1) 0) (Lib.cell_of_heap (at_drewN first1) 1) (Lib.cell_of_heap (at_drewN first1) 2) (Lib.cell_of_heap (at_drewN first1) 3))))
  go_wp2_with fail
  go_returns
  refine ⟨rfl, below_drewN ?_ _⟩
  exact ((Below.refl _ w).alloc (Nat.le_refl _) _).alloc (by simp) _

end Go.Proofs.Ytcndmhanabgamaa
