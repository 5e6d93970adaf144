/-
  Sets of numbers, and the graph, as they lie in memory.
-/
import Derived.Test.YtodldfgoieikcaaBase
import Derived.Deep.MidRow
import Derived.Deep.WholeRow
import Derived.Carry
import Derived.Deep.CutBlock
import Derived.Deep.CutRange
import Derived.Deep.DeepCutAuto
import Derived.Deep.RegionHeld3
import Derived.Lib.QuietBelow
namespace Go.Proofs.Ytodldfgoieikcaa
open Go.RowKit Go.Maps

/-! ### sets -/
def sL (s : Nat → Bool) : List Value := (List.range 101).map fun i => .bool (s i)
@[irreducible] def sA (s : Nat → Bool) : Array Value := (sL s).toArray
theorem sA_list (s : Nat → Bool) : (sL s).toArray = sA s := by unfold sA; rfl
theorem sA_toList (s : Nat → Bool) : (sA s).toList = sL s := by unfold sA; rfl
theorem sL_len (s : Nat → Bool) : (sL s).length = 101 := by simp [sL]
theorem sA_size (s : Nat → Bool) : (sA s).size = 101 := by unfold sA; simp [sL]
theorem sL_get (s : Nat → Bool) (i : Nat) (h : i < 101) : (sL s)[i]? = some (.bool (s i)) := by simp [sL, h]
theorem sA_get (s : Nat → Bool) (i : Nat) (h : i < 101) : (sA s)[i]? = some (.bool (s i)) := by unfold sA; simpa using sL_get s i h
theorem sL_of {s : Nat → Bool} {j : Nat} {v : Value} (h : (sL s)[j]? = some v) : j < 101 ∧ v = .bool (s j) := by
  have hj := (List.getElem?_eq_some_iff.1 h).1
  rw [sL_len] at hj
  rw [sL_get s j hj] at h
  exact ⟨hj, (Option.some.inj h).symm⟩
theorem sA_one (s : Nat → Bool) : (sA s).all (·.oneCell') = true := by
  rw [Array.all_eq_true]
  intro i hi
  rw [sA_size] at hi
  have := sA_get s i hi
  rw [Array.getElem?_eq_some_iff] at this
  obtain ⟨h, e⟩ := this
  rw [e]
  rfl
def sset (s : Nat → Bool) (i : Nat) (b : Bool) : Nat → Bool := fun j => if j = i then b else s j
theorem sA_set (s : Nat → Bool) (i : Nat) (b : Bool) : (sA s).setIfInBounds i (.bool b) = sA (sset s i b) := by
  apply Array.ext
  · simp [sA_size]
  · intro j h1 h2
    rw [sA_size] at h2
    have e1 := sA_get (sset s i b) j h2
    have e2 := sA_get s j h2
    rw [Array.getElem?_eq_some_iff] at e1 e2
    obtain ⟨_, e1⟩ := e1
    obtain ⟨_, e2⟩ := e2
    rw [e1, Array.getElem_setIfInBounds (by rw [sA_size]; exact h2), e2]
    by_cases e : i = j
    · simp [e, sset]
    · simp [e, sset, Ne.symm e]
theorem sA_same {s t : Nat → Bool} (h : ∀ i, i < 101 → s i = t i) : sA s = sA t := by
  unfold sA sL
  congr 1
  apply List.map_congr_left
  intro i hi
  rw [h i (by simpa using hi)]
def s0 : Nat → Bool := fun _ => false
theorem s0_rep : sA s0 = Array.replicate 101 (.bool false) := by
  apply Array.ext
  · simp [sA_size]
  · intro j h1 h2
    rw [sA_size] at h1
    have e1 := sA_get s0 j h1
    rw [Array.getElem?_eq_some_iff] at e1
    obtain ⟨_, e1⟩ := e1
    rw [e1]
    simp [s0]
theorem info49 : (Try.prog.info? 49).map (fun i => (i.zero, i.size)) = some (some (.agg (Array.replicate 101 (.bool false))), 101) := by kernel_rfl
theorem zero49 : ∀ w, (zeroValue 49).run Try.prog w = .ok (.agg (sA s0)) w := by
  rw [s0_rep]; exact (zero_of_info info49).1
theorem size49 (s : Nat → Bool) : (Try.prog.info? 49).map (·.size) = some (sA s).size := by rw [sA_size]; exact (zero_of_info info49).2
theorem size49L (s : Nat → Bool) : (Try.prog.info? 49).map (·.size) = some (sL s).length := by rw [sL_len]; exact (zero_of_info info49).2
theorem built49 : (Try.prog.built 49 []) = some (Array.replicate 101 (.bool false)) := by kernel_rfl
theorem build_s0 {ops : Array Oper} {rest : List Oper} {o : Oper} {a : Act} {w : World} {Q : Exit → Act → World → Prop} (hg : o.guard = none) (ho : o.op = .build 49 #[])
    (h : wpList Try.prog ops Q rest (a.put o.dst (.agg (sA s0))) w) : wpList Try.prog ops Q (o :: rest) a w := by
  have e : ((#[] : Array (Nat × Operand)).map (fun (i, x) => (i, a.eval x))).toList = [] := by simp
  refine wpList_build hg 49 #[] ho ?_ ?_
  · rw [e, built49]; rfl
  · rw [e, built49, Option.getD_some, ← s0_rep]; exact h

/-- a block that holds a set -/
def Sx (w : World) (b : Nat) (s : Nat → Bool) : Prop := w.heap[b]? = some (.cells (sA s) 49 (0, 0))
section
variable {w w1 : World} {b : Nat} {s t : Nat → Bool}
theorem Sx.cell (h : Sx w b s) (i : Nat) (hi : i < 101) : w.cell? ⟨b, i, none⟩ = some (.bool (s i)) := (cell_of h).trans (sA_get s i hi)
theorem Sx.fz (h : Sx w b s) (i : Nat) : w.frozen? ⟨b, i, none⟩ = false := Go.Proofs.Ytodldfgoieikcaa.fz h i
theorem Sx.lt (h : Sx w b s) : b < w.heap.size := (Array.getElem?_eq_some_iff.1 h).1
theorem Sx.set (h : Sx w b s) (i : Nat) (x : Bool) : Sx (w.setCell ⟨b, i, none⟩ (.bool x)) b (sset s i x) := by
  have := setB h (i := i) (.bool x)
  rw [sA_set] at this
  exact this
theorem Sx.at (h : Sx w b s) (e : w1.heap[b]? = w.heap[b]?) : Sx w1 b s := e.trans h
theorem Sx.below {B : Nat} (h : Sx w b s) (k : Below B w w1) (hb : b < B) : Sx w1 b s := h.at (k.block b hb)
theorem Sx.other (h : Sx w b s) (p : Addr) (v : Value) (hp : p.block ≠ b) : Sx (w.setCell p v) b s := h.at (Below.heap_setCell w p v b (fun e => hp e.symm))
theorem Sx.alloc (h : Sx w b s) (o : Obj) : Sx (w.alloc o) b s := (Below.heap_alloc w o b h.lt).trans h
theorem sx_new (w : World) (s : Nat → Bool) (n : Nat) (hn : w.heap.size = n) : Sx (w.alloc (.cells (sA s) 49)) n s := by subst hn; exact Go.heap_alloc_new w _
theorem Sx.setRow (h : Sx w b s) : Sx (w.setRow b (sA t)) b t := setRow_heap w b (sA s) _ 49 _ h
theorem Sx.same (h : Sx w b s) (e : ∀ i, i < 101 → s i = t i) : Sx w b t := by unfold Sx; rw [← sA_same e]; exact h
end
theorem below_setRow {B : Nat} {a w : World} {g : Nat} {c : Array Value} (h : Below B a w) (hg : B ≤ g) : Below B a (w.setRow g c) :=
  ⟨h.os, h.tape, h.output, by simpa using h.size, fun k hk => (setRow_other w g k _ (by omega)).trans (h.block k hk)⟩

/-! ### the graph -/
structure GS where
  st : Nat → Nat
  ps : Nat → Nat → Bool
structure Gr (w : World) (gb : Nat) (g : GS) : Prop where
  cs : ∃ cs, w.heap[gb]? = some (.cells cs 54 (0, 0)) ∧ cs.size = 10302
  s : ∀ i, i < 101 → w.cell? ⟨gb, i * 102, none⟩ = some (.int .u8 (g.st i))
  p : ∀ i j, i < 101 → j < 101 → w.cell? ⟨gb, i * 102 + 1 + j, none⟩ = some (.bool (g.ps i j))
section
variable {w w1 : World} {gb : Nat} {g : GS}
theorem Gr.lt (h : Gr w gb g) : gb < w.heap.size := by obtain ⟨cs, h1, _⟩ := h.cs; exact (Array.getElem?_eq_some_iff.1 h1).1
theorem Gr.at (h : Gr w gb g) (e : w1.heap[gb]? = w.heap[gb]?) : Gr w1 gb g :=
  ⟨by obtain ⟨cs, h1, h2⟩ := h.cs; exact ⟨cs, e.trans h1, h2⟩, fun i hi => (cell_eq e).trans (h.s i hi), fun i j hi hj => (cell_eq e).trans (h.p i j hi hj)⟩
theorem Gr.below {B : Nat} (h : Gr w gb g) (k : Below B w w1) (hb : gb < B) : Gr w1 gb g := h.at (k.block gb hb)
theorem Gr.grow (h : Gr w gb g) (k : Below w.heap.size w w1) : Gr w1 gb g := h.below k h.lt
theorem Gr.fz (h : Gr w gb g) (i : Nat) : w.frozen? ⟨gb, i, none⟩ = false := by obtain ⟨cs, h1, _⟩ := h.cs; exact Go.Proofs.Ytodldfgoieikcaa.fz h1 i
theorem Gr.range (h : Gr w gb g) (i : Nat) (hi : i < 101) : w.rangeAt gb (i * 102 + 1) (sL (g.ps i)) := fun j v hv => by
  obtain ⟨hj, rfl⟩ := sL_of hv
  exact h.p i j hi hj
def GS.sett (g : GS) (i x : Nat) : GS := ⟨fun j => if j = i then x else g.st j, g.ps⟩
theorem Gr.setst (h : Gr w gb g) (i x : Nat) (hi : i < 101) : Gr (w.setCell ⟨gb, i * 102, none⟩ (.int .u8 x)) gb (g.sett i x) := by
  obtain ⟨cs, h1, h2⟩ := h.cs
  have hb := setB h1 (i := i * 102) (.int .u8 x)
  refine ⟨⟨_, hb, by rw [Array.size_setIfInBounds]; exact h2⟩, fun j hj => ?_, fun k j hk hj => ?_⟩
  · rw [cell_of hb]
    have := h.s j hj
    rw [cell_of h1] at this
    by_cases e : j = i
    · subst e; rw [Array.getElem?_setIfInBounds, if_pos rfl, if_pos (by omega)]; simp [GS.sett]
    · rw [Array.getElem?_setIfInBounds, if_neg (by omega), this]; simp [GS.sett, e]
  · rw [cell_of hb]
    have := h.p k j hk hj
    rw [cell_of h1] at this
    rw [Array.getElem?_setIfInBounds, if_neg (by omega), this]; rfl
end
end Go.Proofs.Ytodldfgoieikcaa
