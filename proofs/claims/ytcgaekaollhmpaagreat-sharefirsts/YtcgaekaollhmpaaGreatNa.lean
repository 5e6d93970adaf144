/-
  The calls on no heap; New; Len.
-/
import Derived.Test.YtcgaekaollhmpaaGreatBase
import Derived.Carry
import Derived.Deep.CutBlock
import Derived.Deep.CutRange
import Derived.Deep.DeepCutAuto
import Derived.Deep.RegionHeld3
namespace Go.Proofs.YtcgaekaollhmpaaGreat
open Go.RowKit Go.Maps

def nS : Value := .slice none 0 0
def zH : Nat → Value := fun i => if i = 0 then .int .i64 0 else if i = 1 then .map none else if i = 31 then .pointer none else nS
def zeroH : Array Value := #[.int .i64 0, .map none, nS, nS, nS, nS, nS, nS, nS, nS, nS, nS, nS, nS, nS, nS, nS, nS, nS, nS, nS, nS, nS, nS, nS, nS, nS, nS, nS, nS, nS, .pointer none]
theorem zeroH_eq : zeroH = Array.ofFn (n := 32) fun i => zH i.val := rfl
def ktup (n d : Nat) (t : Int) : Value := .agg #[.int .u64 n, .int .u64 d, .int .i64 t]

theorem c3 {w : World} {g : Nat} {a b c : Value} {t : TypeId} (h : w.heap[g]? = some (.cells #[a, b, c] t (0, 0))) : w.cell? ⟨g, 0, none⟩ = some a ∧ w.cell? ⟨g, 1, none⟩ = some b ∧ w.cell? ⟨g, 2, none⟩ = some c := by
  unfold World.cell?
  rw [h]
  simp
theorem f3 {w : World} {g : Nat} {cs : Array Value} {t : TypeId} (h : w.heap[g]? = some (.cells cs t (0, 0))) : w.frozen? ⟨g, 0, none⟩ = false ∧ w.frozen? ⟨g, 1, none⟩ = false ∧ w.frozen? ⟨g, 2, none⟩ = false := ⟨fz h 0, fz h 1, fz h 2⟩
theorem at_alloc {w : World} {g : Nat} {o o' : Obj} (h : w.heap[g]? = some o) : (w.alloc o').heap[g]? = some o := (Below.heap_alloc w o' g (Array.getElem?_eq_some_iff.1 h).1).trans h
set_option maxHeartbeats 400000 in
theorem new_at (w : World) : Calls Tryz.prog 25 #[] w fun e w' => e = .returned (ptr w.heap.size) ∧ w' = w.alloc (.cells zeroH 98) := by
  go_enter Tryz.func25, Tryz.ntmps25
  go_wp2_with fail
  go_ret
  exact ⟨rfl, rfl⟩
theorem new_blk (w : World) : Blk (w.alloc (.cells zeroH 98)) w.heap.size 98 32 zH := by
  unfold Blk
  rw [← zeroH_eq]
  exact new0

set_option maxHeartbeats 400000 in
theorem len_nil (w : World) : Calls Tryz.prog 75 #[.pointer none] w fun e w' => e = .returned (.int .i64 0) ∧ w' = w := by
  go_enter Tryz.func75, Tryz.ntmps75
  go_wp2_with fail
  go_ret
  exact ⟨rfl, rfl⟩
theorem results_tct {fn : Func} {t p u : Tmp} {ty : TypeId} (h : fn.results = #[.tmp t, .cell p ty, .tmp u]) (tmps : Array Value) (P : Program) (w : World) :
    (results fn tmps).run P w = ((asAddr (tmps.getD p undef)).run P w).andThen fun a w₁ => ((loadVar ty a).run P w₁).andThen fun v w₂ => .ok (.tuple #[tmps.getD t undef, v, tmps.getD u undef]) w₂ := by
  simp only [results, h]
  simp [Sem.run_bind, Result.andThen]
set_option maxHeartbeats 400000 in
theorem insert_nil (n d : Nat) (t : Int) (w : World) : Calls Tryz.prog 24 #[.pointer none, ktup n d t] w fun e w' => e = .returned (.tuple #[.int .i64 0, .int .i64 10]) ∧ Below w.heap.size w w' := by
  unfold ktup
  go_enter Tryz.func24, Tryz.ntmps24
  go_wp2_with fail
  go_ret2
  exact ⟨rfl, by go_grown⟩
set_option maxHeartbeats 400000 in
theorem min_nil (w : World) : Calls Tryz.prog 47 #[.pointer none] w fun e w' => e = .returned (.tuple #[.int .i64 0, ktup 0 0 0, .int .i64 3]) ∧ Below w.heap.size w w' := by
  have H11 : Hid (∀ w, Calls Tryz.prog 75 #[.pointer none] w fun e w' => e = .returned (.int .i64 0) ∧ w' = w) := fun w => len_nil w
  go_enter Tryz.func47, Tryz.ntmps47
  go_wp2_with (go_at_call 75; refine (H11.out _).mono ?_; rintro e w1 ⟨rfl, rfl⟩)
  refine bodyPost_ret (v := .tuple #[.int .i64 0, ktup 0 0 0, .int .i64 3]) (by rw [results_tct rfl]; go_simp; rfl) rfl ?_
  exact ⟨rfl, by go_grown⟩
set_option maxHeartbeats 400000 in
theorem pop_nil (w : World) : Calls Tryz.prog 27 #[.pointer none] w fun e w' => e = .returned (.tuple #[.int .i64 0, ktup 0 0 0, .int .i64 3]) ∧ Below w.heap.size w w' := by
  have H20 : Hid (∀ w, Calls Tryz.prog 47 #[.pointer none] w fun e w' => e = .returned (.tuple #[.int .i64 0, .agg #[.int .u64 0, .int .u64 0, .int .i64 0], .int .i64 3]) ∧ Below w.heap.size w w') := fun w => min_nil w
  go_enter Tryz.func27, Tryz.ntmps27
  go_upto_region 1 with fail
  have G0 : (w.alloc (.cells #[.int .u64 0, .int .u64 0, .int .i64 0] 72)).heap[w.heap.size]? = some (.cells #[.int .u64 0, .int .u64 0, .int .i64 0] 72 (0, 0)) := new0
  have B0 : Below w.heap.size w (w.alloc (.cells #[.int .u64 0, .int .u64 0, .int .i64 0] 72)) := by go_grown
  generalize w.alloc (.cells #[.int .u64 0, .int .u64 0, .int .i64 0] 72) = W at *

  go_wp2_with (go_at_call 47; refine (H20.out _).mono ?_; rintro e w1 ⟨rfl, b1⟩; have G1 := at_below b1 (Nat.le_refl _) G0; have B1 := B0.trans (b1.mono B0.size); clear G0 B0 b1)
  have G2 : Hid ((w1.alloc (.cells #[.int .u64 0, .int .u64 0, .int .i64 0] 72)).heap[w.heap.size]? = some (.cells #[.int .u64 0, .int .u64 0, .int .i64 0] 72 (0, 0))) := at_alloc G1
  have B2 : Hid (Below w.heap.size w (w1.alloc (.cells #[.int .u64 0, .int .u64 0, .int .i64 0] 72))) := B1.alloc B1.size _
  obtain ⟨c0, c1, c2⟩ := c3 G2.out
  obtain ⟨f0, f1, f2⟩ := f3 G2.out
  obtain ⟨d0, d1, d2⟩ := c3 (w := w1.alloc (.cells #[.int .u64 0, .int .u64 0, .int .i64 0] 72)) (g := w1.heap.size) new0
  generalize w1.alloc (.cells #[.int .u64 0, .int .u64 0, .int .i64 0] 72) = W2 at *
  clear B1 G1
  go_region
  all_goals go_wp2_with fail
  all_goals refine bodyPost_ret (v := .tuple #[.int .i64 0, ktup 0 0 0, .int .i64 3]) (by rw [results_tct rfl]; go_simp; rfl) rfl ?_
  all_goals exact ⟨rfl, by go_grown; exact B2.out⟩
set_option maxHeartbeats 400000 in
theorem formed_any (n d : Nat) (t : Int) (w : World) : Calls Tryz.prog 43 #[ktup n d t] w fun e w' => e = .returned (.bool ((d : Int) != 0)) ∧ Below w.heap.size w w' := by
  unfold ktup
  go_enter Tryz.func43, Tryz.ntmps43
  go_wp2_with fail
  go_ret
  exact ⟨rfl, by go_grown⟩
end Go.Proofs.YtcgaekaollhmpaaGreat
