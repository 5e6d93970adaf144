/-
  Keys and their order; New, Len; cmp.Compare; before.
-/
import Derived.Test.YthlbeofonbbbdaaBase
import Derived.Test.YthlbeofonbbbdaaHb
import Derived.Carry
import Derived.Deep.CutBlock
import Derived.Deep.CutRange
import Derived.Deep.DeepCutAuto
import Derived.Deep.RegionHeld3
namespace Go.Proofs.Ythlbeofonbbbdaa
open Go.RowKit Go.Maps

structure K where
  a : Int
  b : Int
  c : Int
abbrev i64 (x : Int) : Prop := -9223372036854775808 ≤ x ∧ x < 9223372036854775808
structure K.ok (k : K) : Prop where
  a : i64 k.a
  b : i64 k.b
  c : i64 k.c
/-- an entry as one number -/
def enc (k : K) (h : Nat) : Int := ((k.a * 18446744073709551616 + k.b) * 18446744073709551616 + k.c) * 1048576 + h
def ltB (k : K) (h : Nat) (k' : K) (h' : Nat) : Bool := decide (enc k h < enc k' h')
section
variable {k k' : K} {h h' : Nat}
theorem lt_a (o : k.ok) (o' : k'.ok) (hh : h < 1048576) (hh' : h' < 1048576) (e : k.a ≠ k'.a) : ltB k h k' h' = decide (k.a < k'.a) := by
  have h1 := o.b
  have h2 := o.c
  have h3 := o'.b
  have h4 := o'.c
  unfold ltB enc
  by_cases q : k.a < k'.a
  · rw [decide_eq_true q, decide_eq_true (by omega)]
  · rw [decide_eq_false q, decide_eq_false (by omega)]
theorem lt_b (o : k.ok) (o' : k'.ok) (hh : h < 1048576) (hh' : h' < 1048576) (e0 : k.a = k'.a) (e : k.b ≠ k'.b) : ltB k h k' h' = decide (k.b < k'.b) := by
  have h2 := o.c
  have h4 := o'.c
  unfold ltB enc
  rw [e0]
  by_cases q : k.b < k'.b
  · rw [decide_eq_true q, decide_eq_true (by omega)]
  · rw [decide_eq_false q, decide_eq_false (by omega)]
theorem lt_c (hh : h < 1048576) (hh' : h' < 1048576) (e0 : k.a = k'.a) (e1 : k.b = k'.b) (e : k.c ≠ k'.c) : ltB k h k' h' = decide (k.c < k'.c) := by
  unfold ltB enc
  rw [e0, e1]
  by_cases q : k.c < k'.c
  · rw [decide_eq_true q, decide_eq_true (by omega)]
  · rw [decide_eq_false q, decide_eq_false (by omega)]
theorem lt_h (e0 : k.a = k'.a) (e1 : k.b = k'.b) (e2 : k.c = k'.c) : ltB k h k' h' = decide ((h : Int) < h') := by
  unfold ltB enc
  rw [e0, e1, e2]
  by_cases q : (h : Int) < h'
  · rw [decide_eq_true q, decide_eq_true (by omega)]
  · rw [decide_eq_false q, decide_eq_false (by omega)]
end
def ktup (k : K) : Value := .agg #[.int .i64 k.a, .int .i64 k.b, .int .i64 k.c]
def kz : K := ⟨0, 0, 0⟩

theorem law3 : Keyed Try.prog 3 := int_keyed Try.underlying3
theorem key3 (x : Nat) (hx : x < 9223372036854775808) : keyOf Try.prog 3 (.int .i64 x) = some (.int .i64 x) := keyOf_int_mk Try.underlying3 (by simp [Lit.wf, IntKind.min, IntKind.max, IntKind.bits, IntKind.signed]; omega)
def m0 : DataW Nat := .map []
theorem c3 {w : World} {g : Nat} {a b c : Value} {t : TypeId} (h : w.heap[g]? = some (.cells #[a, b, c] t (0, 0))) : w.cell? ⟨g, 0, none⟩ = some a ∧ w.cell? ⟨g, 1, none⟩ = some b ∧ w.cell? ⟨g, 2, none⟩ = some c := by
  unfold World.cell?
  rw [h]
  simp
theorem f3 {w : World} {g : Nat} {cs : Array Value} {t : TypeId} (h : w.heap[g]? = some (.cells cs t (0, 0))) : w.frozen? ⟨g, 0, none⟩ = false ∧ w.frozen? ⟨g, 1, none⟩ = false ∧ w.frozen? ⟨g, 2, none⟩ = false := ⟨fz h 0, fz h 1, fz h 2⟩
theorem at_alloc {w : World} {g : Nat} {o o' : Obj} (h : w.heap[g]? = some o) : (w.alloc o').heap[g]? = some o := (Below.heap_alloc w o' g (Array.getElem?_eq_some_iff.1 h).1).trans h
theorem blk_alloc {w : World} {b t n : Nat} {f : Nat → Value} (h : Blk w b t n f) (o : Obj) : Blk (w.alloc o) b t n f := at_alloc h
theorem results_tct {fn : Func} {t p u : Tmp} {ty : TypeId} (h : fn.results = #[.tmp t, .cell p ty, .tmp u]) (tmps : Array Value) (P : Program) (w : World) :
    (results fn tmps).run P w = ((asAddr (tmps.getD p undef)).run P w).andThen fun a w₁ => ((loadVar ty a).run P w₁).andThen fun v w₂ => .ok (.tuple #[tmps.getD t undef, v, tmps.getD u undef]) w₂ := by
  simp only [results, h]
  simp [Sem.run_bind, Result.andThen]

def nS : Value := .slice none 0 0
def zH : Nat → Value := fun i => if i = 0 then .int .i64 0 else if i = 1 then .map none else nS
def zeroH : Array Value := #[.int .i64 0, .map none, nS]
theorem zeroH_eq : zeroH = Array.ofFn (n := 3) fun i => zH i.val := rfl
set_option maxHeartbeats 400000 in
theorem new_at (w : World) : Calls Try.prog 54 #[] w fun e w' => e = .returned (ptr w.heap.size) ∧ w' = w.alloc (.cells zeroH 102) := by
  go_enter Try.func54, Try.ntmps54
  go_wp2_with fail
  go_ret
  exact ⟨rfl, rfl⟩
theorem new_blk (w : World) : Blk (w.alloc (.cells zeroH 102)) w.heap.size 102 3 zH := by
  unfold Blk
  rw [← zeroH_eq]
  exact new0
set_option maxHeartbeats 400000 in
theorem len_nil (w : World) : Calls Try.prog 51 #[.pointer none] w fun e w' => e = .returned (.int .i64 0) ∧ w' = w := by
  go_enter Try.func51, Try.ntmps51
  go_wp2_with fail
  go_ret
  exact ⟨rfl, rfl⟩
set_option maxHeartbeats 400000 in
theorem len_at (w : World) (hb n c : Nat) (a : Option Addr) (c2 : w.cell? ⟨hb, 2, none⟩ = some (.slice a n c)) : Calls Try.prog 51 #[ptr hb] w fun e w' => e = .returned (.int .i64 n) ∧ w' = w := by
  unfold ptr
  go_enter Try.func51, Try.ntmps51
  go_wp2_with fail
  go_ret
  exact ⟨rfl, rfl⟩
set_option maxHeartbeats 400000 in
theorem nan_any (x : Int) (w : World) : Calls Try.prog 97 #[.int .i64 x] w fun e w' => e = .returned (.bool false) ∧ w' = w := by
  go_enter Try.func97, Try.ntmps97
  go_wp2_with fail
  go_ret
  exact ⟨by simp, rfl⟩
def cmI (x y : Int) : Int := if x < y then -1 else if y < x then 1 else 0
theorem ret_int {k : IntKind} {a b : Int} (h : a = b) : Ending.returned (.int k a) = .returned (.int k b) := by rw [h]
set_option maxHeartbeats 400000 in
theorem cmp_any (x y : Int) (w : World) : Calls Try.prog 83 #[.int .i64 x, .int .i64 y] w fun e w' => e = .returned (.int .i64 (cmI x y)) ∧ w' = w := by
  have H47 : Hid (∀ x w, Calls Try.prog 97 #[.int .i64 x] w fun e w' => e = .returned (.bool false) ∧ w' = w) := nan_any
  go_enter Try.func83, Try.ntmps83
  by_cases h1 : x < y
  · go_wp2_with (go_at_call 97; refine (H47.out _ _).mono ?_; rintro e w1 ⟨rfl, rfl⟩)
    go_ret
    exact ⟨ret_int (by unfold cmI; rw [if_pos h1]), rfl⟩
  · by_cases h2 : y < x
    · go_wp2_with (go_at_call 97; refine (H47.out _ _).mono ?_; rintro e w1 ⟨rfl, rfl⟩)
      go_ret
      exact ⟨ret_int (by unfold cmI; rw [if_neg (by omega), if_pos h2]), rfl⟩
    · go_wp2_with (go_at_call 97; refine (H47.out _ _).mono ?_; rintro e w1 ⟨rfl, rfl⟩)
      go_ret
      exact ⟨ret_int (by unfold cmI; rw [if_neg (by omega), if_neg (by omega)]), rfl⟩
end Go.Proofs.Ythlbeofonbbbdaa
