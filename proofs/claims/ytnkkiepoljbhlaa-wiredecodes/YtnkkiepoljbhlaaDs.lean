/-
  The document's reader: the fields of a kind one behind the other (bD); the box while plain reads (RQ).
-/
import Derived.Test.YtnkkiepoljbhlaaDq
import Derived.Test.YtnkkiepoljbhlaaRec
namespace Go.Proofs.Ytnkkiepoljbhlaa
open Go.RowKit

theorem rf_row {w : World} {rb k a : Nat} {cs : Array Value} {l : List UInt8} {bad : Bool} (h : Rf w rb l a bad) (hk : rb < k) : Rf (w.setRow k cs) rb l a bad := by
  have hb : ∀ j, j ≠ k → (w.setRow k cs).heap[j]? = w.heap[j]? := fun j hj => setRow_other w k j cs hj
  obtain ⟨p, c, h1, h2⟩ := h
  refine ⟨p, c, (hb rb (by omega)).trans h1, ?_, h2.nc, h2.bl, h2.cm⟩
  rcases h2.ly with e | ⟨g, o, rfl, hrow⟩
  · exact .inl e
  · refine .inr ⟨g, o, rfl, fun i x hx => ?_⟩
    have h3 := (h2.bl _ rfl).1
    have h1 := hrow i x hx
    unfold World.cell? at h1 ⊢
    rw [hb g (by simp only at h3; omega)]
    exact h1
/-- one strict reader behind the other -/
def bD {α β : Type} (D : List UInt8 → Option (α × List UInt8)) (E : List UInt8 → Option (β × List UInt8)) (l : List UInt8) : Option ((α × β) × List UInt8) := (D l).bind fun a => (E a.2).bind fun b => some ((a.1, b.1), b.2)
theorem OneX.pair {α β : Type} {D : List UInt8 → Option (α × List UInt8)} {E : List UInt8 → Option (β × List UInt8)} {l : List UInt8} {a k m : Nat} {bad b1 b2 : Bool} {x : α} {y : β} (h : OneX D l a bad x k b1) (g : OneX E l k b1 y m b2) : OneX (bD D E) l a bad (x, y) m b2 := by
  rcases h with ⟨h1, rfl, rfl⟩ | ⟨rfl, h1⟩
  · rcases g with ⟨g1, rfl, -⟩ | ⟨rfl, g1⟩
    · exact .inl ⟨by unfold bD; rw [h1]; show (E (l.drop k)).bind _ = _; rw [g1]; rfl, rfl, rfl⟩
    · refine .inr ⟨rfl, .inr ?_⟩
      have g2 : E (l.drop k) = none := by
        rcases g1 with q | q
        · cases q
        · exact q
      unfold bD
      rw [h1]
      show (E (l.drop k)).bind _ = _
      rw [g2]
      rfl
  · rcases g with ⟨-, -, q⟩ | ⟨rfl, -⟩
    · cases q
    · refine .inr ⟨rfl, ?_⟩
      rcases h1 with q | q
      · exact .inl q
      · exact .inr (by unfold bD; rw [q]; rfl)
/-- while plain reads: the reader, the box that is answered, the box that is filled -/
structure RQ (w0 w : World) (rb : Nat) (l : List UInt8) (k : Nat) (bad : Bool) (p : PL) : Prop where
  rd : Rf w rb l k bad
  le : k ≤ l.length
  lt : rb < w0.heap.size
  b0 : w.heap[w0.heap.size]? = some (.cells PL.zero.cells 32 (0, 0))
  b1 : w.heap[w0.heap.size + 1]? = some (.cells p.cells 32 (0, 0))
  kp : RdK rb w0 w
section
variable {w0 w w' : World} {rb k k' : Nat} {l : List UInt8} {bad bad' : Bool} {p p' : PL}
theorem RQ.read (h : RQ w0 w rb l k bad p) (hr : Rf w' rb l k' bad') (hk : k' ≤ l.length) (q : RdK rb w w') : RQ w0 w' rb l k' bad' p := by
  have h0 := (Array.getElem?_eq_some_iff.1 h.b0).1
  have h1 := (Array.getElem?_eq_some_iff.1 h.b1).1
  have := h.lt
  exact ⟨hr, hk, h.lt, (q.block _ h0 (by omega)).trans h.b0, (q.block _ h1 (by omega)).trans h.b1, h.kp.trans q⟩
theorem RQ.set (h : RQ w0 w rb l k bad p) {i : Nat} (v : Value) (he : p.cells.setIfInBounds i v = p'.cells) : RQ w0 (w.setCell ⟨w0.heap.size + 1, i, none⟩ v) rb l k bad p' := by
  refine ⟨rf_set_off h.rd (by have := h.lt; omega), h.le, h.lt, (Below.heap_setCell _ _ _ _ (fun e => by simp only at e; omega)).trans h.b0, ?_, rdk_set_new h.kp (by omega)⟩
  rw [← he]
  exact Joins.block_setCell h.b1 _
theorem RQ.at (h : RQ w0 w rb l k bad p) (i : Nat) (v : Value) (hv : p.cells[i]? = some v) : w.cell? ⟨w0.heap.size + 1, i, none⟩ = some v := by rw [Lib.cell_of_heap h.b1 i]; exact hv
theorem RQ.fz (h : RQ w0 w rb l k bad p) (i : Nat) : w.frozen? ⟨w0.heap.size + 1, i, none⟩ = false := froz_row h.b1
/-- four cells -/
theorem RQ.set4 (h : RQ w0 w rb l k bad p) {i : Nat} {a b c d : Value} {p1 p2 p3 p4 : PL} (h1 : p.cells.setIfInBounds i a = p1.cells) (h2 : p1.cells.setIfInBounds (i + 1) b = p2.cells) (h3 : p2.cells.setIfInBounds (i + 2) c = p3.cells) (h4 : p3.cells.setIfInBounds (i + 3) d = p4.cells) : RQ w0 ((((w.setCell ⟨w0.heap.size + 1, i, none⟩ a).setCell ⟨w0.heap.size + 1, i + 1, none⟩ b).setCell ⟨w0.heap.size + 1, i + 2, none⟩ c).setCell ⟨w0.heap.size + 1, i + 3, none⟩ d) rb l k bad p4 := (((h.set a h1).set b h2).set c h3).set d h4
theorem RQ.start (h : Rf w rb l k bad) (hk : k ≤ l.length) : RQ w ((w.alloc (Obj.cells PL.zero.cells 32)).alloc (Obj.cells p.cells 32)) rb l k bad p := by
  have hB : Below w.heap.size w ((w.alloc (Obj.cells PL.zero.cells 32)).alloc (Obj.cells p.cells 32)) := ((Below.refl _ w).alloc (Nat.le_refl _) _).alloc (by simp) _
  have e0 : ((w.alloc (Obj.cells PL.zero.cells 32)).alloc (Obj.cells p.cells 32)).heap[w.heap.size]? = some (.cells PL.zero.cells 32 (0, 0)) := by
    refine (Below.heap_alloc _ _ _ (by simp)).trans ?_
    show (Array.push _ _)[_]? = _
    rw [Array.getElem?_push]
    exact if_pos rfl
  have e1 : ((w.alloc (Obj.cells PL.zero.cells 32)).alloc (Obj.cells p.cells 32)).heap[w.heap.size + 1]? = some (.cells p.cells 32 (0, 0)) := by
    show (Array.push _ _)[_]? = _
    rw [Array.getElem?_push]
    exact if_pos (by simp)
  exact ⟨h.below hB, hk, h.lt, e0, e1, RdK.of_below hB⟩
end
end Go.Proofs.Ytnkkiepoljbhlaa
