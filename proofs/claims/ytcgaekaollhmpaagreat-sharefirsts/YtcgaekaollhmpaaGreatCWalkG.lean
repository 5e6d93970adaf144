/-
  Plain mathematics of vectors: when one is formed, fits, comes first. The contracts of Formed, the program's and the reference's. The contracts of cmp.Compare at int64, of slices.Compare at two vectors, of the program's Cmp. The contracts of allFormed and of Sum. The contract of the program's Sum. The contracts of Add, the program's and the reference's. The contracts of Sub, the program's and the reference's. The contract of the program's Sub.
-/
import Derived.Test.YtcgaekaollhmpaaGreatRows
import Derived.WalkKit
import Derived.WalkSpells
import Derived.WalkSmall
import Derived.Deep.QuietTactic
import Derived.BigQuiet
import Derived.Handy
import Derived.Laws.ResultCell
namespace Go.Proofs.YtcgaekaollhmpaaGreat.Vs

/-- a number that a formed vector may have -/
def okI (x : Int) : Bool := decide (0 ≤ x ∧ x ≤ 1099511627776)
def fm (a b c d : Int) : Bool := okI a && (okI b && (okI c && okI d))
/-- which comes first -/
def o1 (a b : Int) (r : Int) : Int := if a < b then -1 else if b < a then 1 else r
def cm (a b c d e f g h : Int) : Int := o1 a e (o1 b f (o1 c g (o1 d h 0)))
def ft (a b c d e f g h : Int) : Bool := decide (a ≤ e) && (decide (b ≤ f) && (decide (c ≤ g) && decide (d ≤ h)))

theorem okI_yes {x : Int} (h0 : ¬ x < 0) (h1 : ¬ 1099511627776 < x) : okI x = true := by unfold okI; exact decide_eq_true ⟨by omega, by omega⟩
theorem okI_neg {x : Int} (h0 : x < 0) : okI x = false := by unfold okI; exact decide_eq_false (by omega)
theorem okI_top {x : Int} (h0 : 1099511627776 < x) : okI x = false := by unfold okI; exact decide_eq_false (by omega)
theorem okI_iff {x : Int} : okI x = true ↔ 0 ≤ x ∧ x ≤ 1099511627776 := by unfold okI; exact decide_eq_true_iff

end Go.Proofs.YtcgaekaollhmpaaGreat.Vs

namespace Go.Proofs.YtcgaekaollhmpaaGreat.Vs
open Go.RowKit

theorem below_drewN {B : Nat} {a w : World} (h : Below B a w) (n : Nat) : Below B a (w.drewN n) := ⟨h.os, h.tape, h.output, h.size, h.block⟩

theorem ix0 (a b c d : Value) : ∀ w, (Instr.index 23 (.agg #[a, b, c, d]) (.int .i64 0)).run Tryz.prog w = .ok a w := fun _ => by kernel_rfl
theorem ix1 (a b c d : Value) : ∀ w, (Instr.index 23 (.agg #[a, b, c, d]) (.int .i64 1)).run Tryz.prog w = .ok b w := fun _ => by kernel_rfl
theorem ix2 (a b c d : Value) : ∀ w, (Instr.index 23 (.agg #[a, b, c, d]) (.int .i64 2)).run Tryz.prog w = .ok c w := fun _ => by kernel_rfl
theorem ix3 (a b c d : Value) : ∀ w, (Instr.index 23 (.agg #[a, b, c, d]) (.int .i64 3)).run Tryz.prog w = .ok d w := fun _ => by kernel_rfl

set_option maxHeartbeats 1000000 in
theorem formed_any (a b c d : Int) (w : World) :
    Calls Tryz.prog 54 #[.agg #[.int .i64 a, .int .i64 b, .int .i64 c, .int .i64 d]] w fun e w' => e = .returned (.bool (fm a b c d)) ∧ Below w.heap.size w w' := by
  have i0 := ix0 (.int .i64 a) (.int .i64 b) (.int .i64 c) (.int .i64 d)
  have i1 := ix1 (.int .i64 a) (.int .i64 b) (.int .i64 c) (.int .i64 d)
  have i2 := ix2 (.int .i64 a) (.int .i64 b) (.int .i64 c) (.int .i64 d)
  have i3 := ix3 (.int .i64 a) (.int .i64 b) (.int .i64 c) (.int .i64 d)
  go_enter Tryz.func54, Tryz.ntmps54
  go_wp2_with fail
  go_rounds 5
  all_goals (go_returns; refine ⟨congrArg (fun b => Ending.returned (Value.bool b)) ?_, by go_grown⟩)
  all_goals (clear i0 i1 i2 i3; unfold fm okI; simp; omega)

set_option maxHeartbeats 1000000 in
theorem rformed_any (a b c d : Int) (w : World) :
    Calls Tryz.prog 50 #[.agg #[.int .i64 a, .int .i64 b, .int .i64 c, .int .i64 d]] w fun e w' => e = .returned (.bool (fm a b c d)) ∧ Below w.heap.size w w' := by
  go_enter Tryz.func50, Tryz.ntmps50
  go_wp2_with fail
  go_rounds 5
  all_goals (go_returns; refine ⟨congrArg (fun b => Ending.returned (Value.bool b)) ?_, by go_grown⟩)
  all_goals (unfold fm okI; simp; omega)

end Go.Proofs.YtcgaekaollhmpaaGreat.Vs

namespace Go.Proofs.YtcgaekaollhmpaaGreat.Vs
open Go.RowKit

def ordI (a b : Int) : Int := if a < b then -1 else if b < a then 1 else 0

set_option maxHeartbeats 400000 in
theorem isNaNi_any (a : Int) (w : World) : Calls Tryz.prog 114 #[.int .i64 a] w fun e w' => e = .returned (.bool false) ∧ w' = w := by
  go_enter Tryz.func114, Tryz.ntmps114
  go_wp2
  go_ret
  exact ⟨by simp, rfl⟩

set_option maxHeartbeats 400000 in
theorem comparei_any (a b : Int) (w : World) : Calls Tryz.prog 111 #[.int .i64 a, .int .i64 b] w fun e w' => e = .returned (.int .i64 (ordI a b)) ∧ w' = w := by
  go_enter Tryz.func111, Tryz.ntmps111
  go_wp2_with (go_at_call 114; refine (isNaNi_any _ _).mono ?_; rintro e w' ⟨rfl, rfl⟩)
  · rename_i h; go_ret; rw [ordI, if_pos h]; exact ⟨rfl, rfl⟩
  · rename_i h h2; go_ret; rw [ordI, if_neg (by omega), if_pos (by omega)]; exact ⟨rfl, rfl⟩
  · rename_i h h2; go_ret; rw [ordI, if_neg (by omega), if_neg (by omega)]; exact ⟨rfl, rfl⟩

theorem cm_ord (a b c d e f g h : Int) : cm a b c d e f g h = if ordI a e ≠ 0 then ordI a e else if ordI b f ≠ 0 then ordI b f else if ordI c g ≠ 0 then ordI c g else ordI d h := by
  unfold cm o1 ordI
  (repeat' split) <;> simp_all <;> omega

theorem new0 {w : World} {o : Obj} : (w.alloc o).heap[w.heap.size]? = some o := Go.heap_alloc_new w _
theorem at_alloc {w : World} {n : Nat} {o x : Obj} (h : w.heap[n]? = some x) : (w.alloc o).heap[n]? = some x := (Below.heap_alloc w o n (Array.getElem?_eq_some_iff.1 h).1).trans h
theorem at_drew {w : World} {n : Nat} {x : Obj} (h : w.heap[n]? = some x) : w.drew.heap[n]? = some x := h
theorem at_drewN {w : World} {n k : Nat} {x : Obj} (h : w.heap[n]? = some x) : (w.drewN k).heap[n]? = some x := h
theorem new1 {w : World} {o o' : Obj} : ((w.alloc o).alloc o').heap[w.heap.size + 1]? = some o' := by
  have := new0 (w := w.alloc o) (o := o')
  rwa [World.size_alloc] at this
theorem first0 {w : World} {A B : Obj} : ((w.alloc A).alloc B).heap[w.heap.size]? = some A := at_alloc new0
theorem first1 {w : World} {A B : Obj} : ((w.alloc A).alloc B).heap[w.heap.size + 1]? = some B := new1
theorem below_from {B : Nat} {w W w1 : World} (h : Below B w W) (b : Below W.heap.size W w1) (hB : B ≤ W.heap.size) : Below B w w1 := h.trans (b.mono hB)

end Go.Proofs.YtcgaekaollhmpaaGreat.Vs

namespace Go.Proofs.YtcgaekaollhmpaaGreat.Vs
open Go.RowKit

/-- four numbers -/
structure V where
  a : Int
  b : Int
  c : Int
  d : Int
  deriving Inhabited

def V.ok (v : V) : Bool := fm v.a v.b v.c v.d

/-- vectors, one behind the other -/
def Row (w : World) (p o : Nat) (l : List V) : Prop := ∀ (i : Nat) (v : V), l[i]? = some v → w.cell? ⟨p, o + i * 4, none⟩ = some (.int .i64 v.a) ∧ w.cell? ⟨p, o + i * 4 + 1, none⟩ = some (.int .i64 v.b) ∧ w.cell? ⟨p, o + i * 4 + 2, none⟩ = some (.int .i64 v.c) ∧ w.cell? ⟨p, o + i * 4 + 3, none⟩ = some (.int .i64 v.d)

theorem Row.keep {w w1 : World} {p o B : Nat} {l : List V} (b : Below B w w1) (hB : w.heap.size ≤ B) (h : Row w p o l) : Row w1 p o l := fun i v hv => by
  obtain ⟨h0, h1, h2, h3⟩ := h i v hv
  have hp : p < B := Nat.lt_of_lt_of_le (block_lt_of_cell h0) hB
  exact ⟨(b.cell hp).trans h0, (b.cell hp).trans h1, (b.cell hp).trans h2, (b.cell hp).trans h3⟩

def allOk (l : List V) : Bool := l.all V.ok

set_option maxHeartbeats 1000000 in
theorem allFormed_any (l : List V) (p o c : Nat) (w : World) (hn : l.length < 1152921504606846976) (hr : Row w p o l) :
    Calls Tryz.prog 31 #[.slice (some ⟨p, o, none⟩) l.length c] w fun e w' => e = .returned (.bool (allOk l)) ∧ Below w.heap.size w w' := by
  generalize hL : l.length = n at *
  have HL : Hid (l.length = n) := hL
  have HR : Hid (Row w p o l) := hr
  have HC : Hid (∀ (a b c d : Int) (w : World), Calls Tryz.prog 54 #[.agg #[.int .i64 a, .int .i64 b, .int .i64 c, .int .i64 d]] w fun e w' => e = .returned (.bool (fm a b c d)) ∧ Below w.heap.size w w') := fun a b c d w => formed_any a b c d w
  clear hL hr
  go_enter Tryz.func31, Tryz.ntmps31
  go_wp2_with fail
  go_loopw [7] (fun x wr => ∃ k : Nat, x = .int .i64 k ∧ k ≤ n ∧ (∀ (i : Nat) (v : V), i < k → l[i]? = some v → v.ok = true) ∧ Below w.heap.size w wr) (fun x _ => (n : Int).toNat - (intOf x).toNat)
  case atStart => exact ⟨0, rfl, by omega, fun _ _ h => absurd h (by omega), Below.refl _ _⟩
  case round =>
    obtain ⟨k, rfl, hk, hall, hb⟩ := hrel
    by_cases h0 : k = n
    · subst h0
      go_wp2_with fail
      go_ret
      refine ⟨congrArg (fun b => Ending.returned (Value.bool b)) ?_, hb⟩
      refine (List.all_eq_true.2 fun v hv => ?_).symm
      obtain ⟨i, hi⟩ := List.mem_iff_getElem?.1 hv
      have hi' := (List.getElem?_eq_some_iff.1 hi).1
      exact hall i v (by have := HL.out; omega) hi
    · have hlt : k < l.length := by have := HL.out; omega
      have hlt' : (k : Int) < (n : Int) := by omega
      have hd : decide ((k : Int) < (n : Int)) = true := decide_eq_true hlt'
      obtain ⟨v, hv⟩ : ∃ v, l[k]? = some v := ⟨l[k], List.getElem?_eq_getElem hlt⟩
      obtain ⟨a, b, c', d⟩ := v
      obtain ⟨c0, c1, c2, c3⟩ := (HR.out.keep hb (Nat.le_refl _)) k _ hv
      simp only [] at c0 c1 c2 c3
      have HB : Hid (Below w.heap.size w wr) := hb
      have HA : Hid (∀ (i : Nat) (v : V), i < k → l[i]? = some v → v.ok = true) := hall
      clear hb hall
      by_cases hf : fm a b c' d = true
      · have HC' : Hid (∀ (w : World), Calls Tryz.prog 54 #[.agg #[.int .i64 a, .int .i64 b, .int .i64 c', .int .i64 d]] w fun e w' => e = .returned (.bool true) ∧ Below w.heap.size w w') := fun w => by have := HC.out a b c' d w; rwa [hf] at this
        clear HC
        go_wp2_with (go_at_call 54; refine (HC'.out _).mono ?_; rintro e w1 ⟨rfl, b1⟩)
        refine ⟨⟨k + 1, ?_, by omega, ?_, ?_⟩, ?_⟩
        · simp
        · intro i v hi hiv
          by_cases hik : i = k
          · subst hik
            rw [hv] at hiv
            obtain rfl := Option.some.inj hiv
            exact hf
          · exact HA.out i v (by omega) hiv
        · exact below_from (HB.out.alloc HB.out.size _) b1 (by have := HB.out.size; simp; omega)
        · simp only [intOf]; omega
      · have HC' : Hid (∀ (w : World), Calls Tryz.prog 54 #[.agg #[.int .i64 a, .int .i64 b, .int .i64 c', .int .i64 d]] w fun e w' => e = .returned (.bool false) ∧ Below w.heap.size w w') := fun w => by have := HC.out a b c' d w; rwa [Bool.eq_false_iff.2 hf] at this
        clear HC
        go_wp2_with (go_at_call 54; refine (HC'.out _).mono ?_; rintro e w1 ⟨rfl, b1⟩)
        go_ret
        refine ⟨congrArg (fun b => Ending.returned (Value.bool b)) ?_, below_from (HB.out.alloc HB.out.size _) b1 (by have := HB.out.size; simp; omega)⟩
        symm
        refine Bool.eq_false_iff.2 fun h => hf ?_
        exact List.all_eq_true.1 h _ (List.mem_of_getElem? hv)

set_option maxHeartbeats 400000 in
theorem allFormed_nil (q : Option Addr) (c : Nat) (w : World) :
    Calls Tryz.prog 31 #[.slice q 0 c] w fun e w' => e = .returned (.bool true) ∧ Below w.heap.size w w' := by
  go_enter Tryz.func31, Tryz.ntmps31
  go_wp2_with fail
  go_rounds 1
  go_returns
  exact ⟨rfl, Below.refl _ _⟩

end Go.Proofs.YtcgaekaollhmpaaGreat.Vs

namespace Go.Proofs.YtcgaekaollhmpaaGreat.Vs
open Go.RowKit

def V.add (v u : V) : V := ⟨v.a + u.a, v.b + u.b, v.c + u.c, v.d + u.d⟩
def V.nil : V := ⟨0, 0, 0, 0⟩
def sumF : V → List V → V × Nat
  | s, [] => (s, 0)
  | s, v :: l => if (s.add v).ok then sumF (s.add v) l else (V.nil, 7)
def sumR (l : List V) : V × Nat := if allOk l then sumF V.nil l else (V.nil, 4)
/-- a vector and an error's number -/
def ansV (r : V × Nat) : Ending := .returned (.tuple #[.agg #[.int .i64 r.1.a, .int .i64 r.1.b, .int .i64 r.1.c, .int .i64 r.1.d], .int .i64 r.2])

theorem cells4 {w : World} {g : Nat} {x y z u : Value} {ty : TypeId} (h : w.heap[g]? = some (.cells #[x, y, z, u] ty)) :
    w.cell? ⟨g, 0, none⟩ = some x ∧ w.cell? ⟨g, 1, none⟩ = some y ∧ w.cell? ⟨g, 2, none⟩ = some z ∧ w.cell? ⟨g, 3, none⟩ = some u ∧ w.frozen? ⟨g, 0, none⟩ = false ∧ w.frozen? ⟨g, 1, none⟩ = false ∧ w.frozen? ⟨g, 2, none⟩ = false ∧ w.frozen? ⟨g, 3, none⟩ = false ∧ g < w.heap.size ∧ ¬ g = w.heap.size := by
  have h2 : g < w.heap.size := (Array.getElem?_eq_some_iff.1 h).1
  exact ⟨Lib.cell_of_heap h 0, Lib.cell_of_heap h 1, Lib.cell_of_heap h 2, Lib.cell_of_heap h 3, Lib.frozen_of_heap h 0, Lib.frozen_of_heap h 1, Lib.frozen_of_heap h 2, Lib.frozen_of_heap h 3, h2, by omega⟩
theorem at_below {W w1 : World} {g : Nat} {o : Obj} {B : Nat} (b : Below B W w1) (hB : W.heap.size ≤ B) (h : W.heap[g]? = some o) : w1.heap[g]? = some o :=
  (b.block g (Nat.lt_of_lt_of_le (Array.getElem?_eq_some_iff.1 h).1 hB)).trans h
theorem at_set4 {W : World} {g : Nat} {x y z u v0 v1 v2 v3 : Value} {ty : TypeId} (h : W.heap[g]? = some (.cells #[x, y, z, u] ty)) : ((((W.setCell ⟨g, 0, none⟩ v0).setCell ⟨g, 1, none⟩ v1).setCell ⟨g, 2, none⟩ v2).setCell ⟨g, 3, none⟩ v3).heap[g]? = some (.cells #[v0, v1, v2, v3] ty) :=
  heap_setCell_same _ g 3 #[v0, v1, v2, u] ty v3 (heap_setCell_same _ g 2 #[v0, v1, z, u] ty v2 (heap_setCell_same _ g 1 #[v0, y, z, u] ty v1 (heap_setCell_same W g 0 #[x, y, z, u] ty v0 h)))
theorem at_other {W : World} {g g' k : Nat} {v : Value} {o : Obj} (h : W.heap[g]? = some o) (hne : g ≠ g') : (W.setCell ⟨g', k, none⟩ v).heap[g]? = some o := (Below.heap_setCell _ _ _ _ hne).trans h

theorem okV {v : V} (h : v.ok = true) : (0 ≤ v.a ∧ v.a ≤ 1099511627776) ∧ (0 ≤ v.b ∧ v.b ≤ 1099511627776) ∧ (0 ≤ v.c ∧ v.c ≤ 1099511627776) ∧ (0 ≤ v.d ∧ v.d ≤ 1099511627776) := by
  unfold V.ok fm okI at h
  simpa using h
theorem drop_cons {l : List V} {k : Nat} {v : V} (h : l[k]? = some v) : l.drop k = v :: l.drop (k + 1) := by
  obtain ⟨hk, rfl⟩ := List.getElem?_eq_some_iff.1 h
  exact List.drop_eq_getElem_cons hk

theorem wrap_ok {x : Int} (h0 : -9223372036854775808 ≤ x) (h1 : x < 9223372036854775808) : IntKind.i64.wrap x = x := by
  rw [IntKind.wrap_i64]; omega

end Go.Proofs.YtcgaekaollhmpaaGreat.Vs

namespace Go.Proofs.YtcgaekaollhmpaaGreat.Vs
open Go.RowKit

def addR (v u : V) : V × Nat := if v.ok && u.ok then (if (v.add u).ok then (v.add u, 0) else (V.nil, 7)) else (V.nil, 4)

theorem nil_add (v : V) : V.nil.add v = v := by unfold V.nil V.add; simp
theorem sumR_two (v u : V) : sumR [v, u] = addR v u := by
  unfold sumR addR allOk
  simp only [List.all_cons, List.all_nil, Bool.and_true, sumF, nil_add]
  by_cases h : v.ok = true <;> by_cases h2 : u.ok = true <;> simp [h, h2]

theorem row2 {w : World} {p : Nat} {ty : TypeId} {v u : V} (h : w.heap[p]? = some (.cells #[.int .i64 v.a, .int .i64 v.b, .int .i64 v.c, .int .i64 v.d, .int .i64 u.a, .int .i64 u.b, .int .i64 u.c, .int .i64 u.d] ty)) : Row w p 0 [v, u] := by
  intro i x hx
  match i, hx with
  | 0, hx =>
    obtain rfl : v = x := by simpa using hx
    exact ⟨Lib.cell_of_heap h 0, Lib.cell_of_heap h 1, Lib.cell_of_heap h 2, Lib.cell_of_heap h 3⟩
  | 1, hx =>
    obtain rfl : u = x := by simpa using hx
    exact ⟨Lib.cell_of_heap h 4, Lib.cell_of_heap h 5, Lib.cell_of_heap h 6, Lib.cell_of_heap h 7⟩
  | n + 2, hx => simp at hx

theorem new2 {w : World} {A B C : Obj} : (((w.alloc A).alloc B).alloc C).heap[w.heap.size + 1 + 1]? = some C := by
  have := new0 (w := (w.alloc A).alloc B) (o := C)
  rwa [World.size_alloc, World.size_alloc] at this
theorem new3 {w : World} {A B C D : Obj} : ((((w.alloc A).alloc B).alloc C).alloc D).heap[w.heap.size + 1 + 1 + 1]? = some D := by
  have := new0 (w := ((w.alloc A).alloc B).alloc C) (o := D)
  rwa [World.size_alloc, World.size_alloc, World.size_alloc] at this

end Go.Proofs.YtcgaekaollhmpaaGreat.Vs

namespace Go.Proofs.YtcgaekaollhmpaaGreat.Vs
open Go.RowKit

def V.sub (v u : V) : V := ⟨v.a - u.a, v.b - u.b, v.c - u.c, v.d - u.d⟩
def subR (v u : V) : V × Nat := if v.ok && u.ok then (if (v.sub u).ok then (v.sub u, 0) else (V.nil, 2)) else (V.nil, 4)

end Go.Proofs.YtcgaekaollhmpaaGreat.Vs

namespace Go.Proofs.YtcgaekaollhmpaaGreat.Vs
open Go.RowKit

end Go.Proofs.YtcgaekaollhmpaaGreat.Vs
