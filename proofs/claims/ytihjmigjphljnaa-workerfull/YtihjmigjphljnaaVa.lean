/-
  Vectors: formed, within, taken away, held against each other.
-/
import Derived.Test.YtihjmigjphljnaaTBase
import Derived.DeepKeys
namespace Go.Proofs.Ytihjmigjphljnaa
open Go.RowKit
open Tk

/-- a number that a formed vector may have -/
def okI (x : Int) : Bool := decide (0 ≤ x ∧ x ≤ 1099511627776)
def fm (a b c d : Int) : Bool := okI a && (okI b && (okI c && okI d))
def ft (a b c d e f g h : Int) : Bool := decide (a ≤ e) && (decide (b ≤ f) && (decide (c ≤ g) && decide (d ≤ h)))
theorem ix0 (a b c d : Value) : ∀ w, (Instr.index 32 (.agg #[a, b, c, d]) (.int .i64 0)).run Try.prog w = .ok a w := fun _ => by kernel_rfl
theorem ix1 (a b c d : Value) : ∀ w, (Instr.index 32 (.agg #[a, b, c, d]) (.int .i64 1)).run Try.prog w = .ok b w := fun _ => by kernel_rfl
theorem ix2 (a b c d : Value) : ∀ w, (Instr.index 32 (.agg #[a, b, c, d]) (.int .i64 2)).run Try.prog w = .ok c w := fun _ => by kernel_rfl
theorem ix3 (a b c d : Value) : ∀ w, (Instr.index 32 (.agg #[a, b, c, d]) (.int .i64 3)).run Try.prog w = .ok d w := fun _ => by kernel_rfl
set_option maxHeartbeats 1000000 in
theorem formed_any (a b c d : Int) (w : World) :
    Calls Try.prog 32 #[.agg #[.int .i64 a, .int .i64 b, .int .i64 c, .int .i64 d]] w fun e w' => e = .returned (.bool (fm a b c d)) ∧ Below w.heap.size w w' := by
  have i0 := ix0 (.int .i64 a) (.int .i64 b) (.int .i64 c) (.int .i64 d)
  have i1 := ix1 (.int .i64 a) (.int .i64 b) (.int .i64 c) (.int .i64 d)
  have i2 := ix2 (.int .i64 a) (.int .i64 b) (.int .i64 c) (.int .i64 d)
  have i3 := ix3 (.int .i64 a) (.int .i64 b) (.int .i64 c) (.int .i64 d)
  go_enter Try.func32, Try.ntmps32
  go_wp2_with fail
  go_rounds 5
  all_goals (go_returns; refine ⟨congrArg (fun b => Ending.returned (Value.bool b)) ?_, by go_grown⟩)
  all_goals (clear i0 i1 i2 i3; unfold fm okI; simp; omega)
set_option maxHeartbeats 1000000 in
theorem rformed_any (a b c d : Int) (w : World) :
    Calls Try.prog 38 #[.agg #[.int .i64 a, .int .i64 b, .int .i64 c, .int .i64 d]] w fun e w' => e = .returned (.bool (fm a b c d)) ∧ Below w.heap.size w w' := by
  go_enter Try.func38, Try.ntmps38
  go_wp2_with fail
  go_rounds 5
  all_goals (go_returns; refine ⟨congrArg (fun b => Ending.returned (Value.bool b)) ?_, by go_grown⟩)
  all_goals (unfold fm okI; simp; omega)
theorem at_alloc {w : World} {n : Nat} {o x : Obj} (h : w.heap[n]? = some x) : (w.alloc o).heap[n]? = some x := (Below.heap_alloc w o n (Array.getElem?_eq_some_iff.1 h).1).trans h
theorem new1 {w : World} {A B : Obj} : ((w.alloc A).alloc B).heap[w.heap.size + 1]? = some B := by
  have := new0 (w := w.alloc A) (o := B)
  rwa [World.size_alloc] at this
/-- four numbers -/
structure V where
  a : Int
  b : Int
  c : Int
  d : Int
  deriving Inhabited, DecidableEq
def V.ok (v : V) : Bool := fm v.a v.b v.c v.d
/-- vectors, one behind the other -/
def VRow (w : World) (p o : Nat) (l : List V) : Prop := ∀ (i : Nat) (v : V), l[i]? = some v → w.cell? ⟨p, o + i * 4, none⟩ = some (.int .i64 v.a) ∧ w.cell? ⟨p, o + i * 4 + 1, none⟩ = some (.int .i64 v.b) ∧ w.cell? ⟨p, o + i * 4 + 2, none⟩ = some (.int .i64 v.c) ∧ w.cell? ⟨p, o + i * 4 + 3, none⟩ = some (.int .i64 v.d)
theorem VRow.keep {w w1 : World} {p o B : Nat} {l : List V} (b : Below B w w1) (hB : w.heap.size ≤ B) (h : VRow w p o l) : VRow w1 p o l := fun i v hv => by
  obtain ⟨h0, h1, h2, h3⟩ := h i v hv
  have hp : p < B := Nat.lt_of_lt_of_le (block_lt_of_cell h0) hB
  exact ⟨(b.cell hp).trans h0, (b.cell hp).trans h1, (b.cell hp).trans h2, (b.cell hp).trans h3⟩
def allOk (l : List V) : Bool := l.all V.ok
def V.add (v u : V) : V := ⟨v.a + u.a, v.b + u.b, v.c + u.c, v.d + u.d⟩
def V.nil : V := ⟨0, 0, 0, 0⟩
def sumF : V → List V → V × Nat
  | s, [] => (s, 0)
  | s, v :: l => if (s.add v).ok then sumF (s.add v) l else (V.nil, 7)
def sumR (l : List V) : V × Nat := if allOk l then sumF V.nil l else (V.nil, 4)
/-- a vector and an error's number -/
def ansV (r : V × Nat) : Ending := .returned (.tuple #[.agg #[.int .i64 r.1.a, .int .i64 r.1.b, .int .i64 r.1.c, .int .i64 r.1.d], .int .i64 r.2])
theorem cells4 {w : World} {g : Nat} {x y z u : Value} {ty : TypeId} (h : w.heap[g]? = some (.cells #[x, y, z, u] ty)) :
    w.cell? ⟨g, 0, none⟩ = some x ∧ w.cell? ⟨g, 1, none⟩ = some y ∧ w.cell? ⟨g, 2, none⟩ = some z ∧ w.cell? ⟨g, 3, none⟩ = some u ∧ w.frozen? ⟨g, 0, none⟩ = false ∧ w.frozen? ⟨g, 1, none⟩ = false ∧ w.frozen? ⟨g, 2, none⟩ = false ∧ w.frozen? ⟨g, 3, none⟩ = false ∧ g < w.heap.size ∧ ¬ g = w.heap.size := by
  have h2 : g < w.heap.size := (Array.getElem?_eq_some_iff.1 h).1
  exact ⟨Lib.cell_of_heap h 0, Lib.cell_of_heap h 1, Lib.cell_of_heap h 2, Lib.cell_of_heap h 3, Lib.frozen_of_heap h 0, Lib.frozen_of_heap h 1, Lib.frozen_of_heap h 2, Lib.frozen_of_heap h 3, h2, by omega⟩
theorem at_set4 {W : World} {g : Nat} {x y z u v0 v1 v2 v3 : Value} {ty : TypeId} (h : W.heap[g]? = some (.cells #[x, y, z, u] ty)) : ((((W.setCell ⟨g, 0, none⟩ v0).setCell ⟨g, 1, none⟩ v1).setCell ⟨g, 2, none⟩ v2).setCell ⟨g, 3, none⟩ v3).heap[g]? = some (.cells #[v0, v1, v2, v3] ty) :=
  heap_setCell_same _ g 3 #[v0, v1, v2, u] ty v3 (heap_setCell_same _ g 2 #[v0, v1, z, u] ty v2 (heap_setCell_same _ g 1 #[v0, y, z, u] ty v1 (heap_setCell_same W g 0 #[x, y, z, u] ty v0 h)))
theorem at_other {W : World} {g g' k : Nat} {v : Value} {o : Obj} (h : W.heap[g]? = some o) (hne : g ≠ g') : (W.setCell ⟨g', k, none⟩ v).heap[g]? = some o := (Below.heap_setCell _ _ _ _ hne).trans h
theorem okV {v : V} (h : v.ok = true) : (0 ≤ v.a ∧ v.a ≤ 1099511627776) ∧ (0 ≤ v.b ∧ v.b ≤ 1099511627776) ∧ (0 ≤ v.c ∧ v.c ≤ 1099511627776) ∧ (0 ≤ v.d ∧ v.d ≤ 1099511627776) := by
  unfold V.ok fm okI at h
  simpa using h
theorem drop_cons {l : List V} {k : Nat} {v : V} (h : l[k]? = some v) : l.drop k = v :: l.drop (k + 1) := by
  obtain ⟨hk, rfl⟩ := List.getElem?_eq_some_iff.1 h
  exact List.drop_eq_getElem_cons hk
theorem wrap_ok {x : Int} (h0 : -9223372036854775808 ≤ x) (h1 : x < 9223372036854775808) : IntKind.i64.wrap x = x := by
  rw [IntKind.wrap_i64]; omega
def addR (v u : V) : V × Nat := if v.ok && u.ok then (if (v.add u).ok then (v.add u, 0) else (V.nil, 7)) else (V.nil, 4)
theorem nil_add (v : V) : V.nil.add v = v := by unfold V.nil V.add; simp
theorem sumR_two (v u : V) : sumR [v, u] = addR v u := by
  unfold sumR addR allOk
  simp only [List.all_cons, List.all_nil, Bool.and_true, sumF, nil_add]
  by_cases h : v.ok = true <;> by_cases h2 : u.ok = true <;> simp [h, h2]
theorem row2 {w : World} {p : Nat} {ty : TypeId} {v u : V} (h : w.heap[p]? = some (.cells #[.int .i64 v.a, .int .i64 v.b, .int .i64 v.c, .int .i64 v.d, .int .i64 u.a, .int .i64 u.b, .int .i64 u.c, .int .i64 u.d] ty)) : VRow w p 0 [v, u] := by
  intro i x hx
  match i, hx with
  | 0, hx =>
    obtain rfl : v = x := by simpa using hx
    exact ⟨Lib.cell_of_heap h 0, Lib.cell_of_heap h 1, Lib.cell_of_heap h 2, Lib.cell_of_heap h 3⟩
  | 1, hx =>
    obtain rfl : u = x := by simpa using hx
    exact ⟨Lib.cell_of_heap h 4, Lib.cell_of_heap h 5, Lib.cell_of_heap h 6, Lib.cell_of_heap h 7⟩
  | n + 2, hx => simp at hx
theorem new2 {w : World} {A B C : Obj} : (((w.alloc A).alloc B).alloc C).heap[w.heap.size + 1 + 1]? = some C := by
  have := new0 (w := (w.alloc A).alloc B) (o := C)
  rwa [World.size_alloc, World.size_alloc] at this
theorem new3 {w : World} {A B C D : Obj} : ((((w.alloc A).alloc B).alloc C).alloc D).heap[w.heap.size + 1 + 1 + 1]? = some D := by
  have := new0 (w := ((w.alloc A).alloc B).alloc C) (o := D)
  rwa [World.size_alloc, World.size_alloc, World.size_alloc] at this
def V.sub (v u : V) : V := ⟨v.a - u.a, v.b - u.b, v.c - u.c, v.d - u.d⟩
theorem cells2 : Try.prog.cellsOf 2 = 1 := by kernel_rfl
theorem part0 (x y z u : Value) (w : World) : (part 2 #[x, y, z, u] 0).run Try.prog w = .ok x w := by kernel_rfl
theorem part1 (x y z u : Value) (w : World) : (part 2 #[x, y, z, u] 1).run Try.prog w = .ok y w := by kernel_rfl
theorem part2 (x y z u : Value) (w : World) : (part 2 #[x, y, z, u] 2).run Try.prog w = .ok z w := by kernel_rfl
theorem part3 (x y z u : Value) (w : World) : (part 2 #[x, y, z, u] 3).run Try.prog w = .ok u w := by kernel_rfl
theorem eqi (a e : Int) (w : World) : (Op.equalIn 9999 2 (.int .i64 a) (.int .i64 e)).run Try.prog w = .ok (a == e) w := run_equalIn_int w 9998 2 .i64 .i64 a e Try.underlying2
theorem eq4 (a b c d e f g h : Int) (w : World) :
    (Op.equalIn 10000 32 (.agg #[.int .i64 a, .int .i64 b, .int .i64 c, .int .i64 d]) (.agg #[.int .i64 e, .int .i64 f, .int .i64 g, .int .i64 h])).run Try.prog w = .ok (a == e && (b == f && (c == g && d == h))) w := by
  rw [run_equalIn_array w 9999 _ _ Try.underlying32 (info_of_underlying Try.underlying2).choose_spec, cells2]
  rw [show List.range 4 = [0, 1, 2, 3] from rfl]
  by_cases h1 : a = e <;> by_cases h2 : b = f <;> by_cases h3 : c = g <;> by_cases h4 : d = h <;> simp [Op.eqItems, part0, part1, part2, part3, eqi, h1, h2, h3, h4]
end Go.Proofs.Ytihjmigjphljnaa
