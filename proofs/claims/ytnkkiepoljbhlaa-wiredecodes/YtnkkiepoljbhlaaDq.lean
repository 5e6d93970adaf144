/-
  The document's reader: a job as it is read; append within a region that draws.
-/
import Derived.Test.YtnkkiepoljbhlaaDp
import Derived.Deep.RegionHeld3
import Derived.Deep.RegionLaw
import Derived.Deep.AppendLies
namespace Go.Proofs.Ytnkkiepoljbhlaa
open Go.RowKit

/-- while a job is read -/
structure RJ (w0 w : World) (rb : Nat) (l : List UInt8) (k : Nat) (bad : Bool) (id : Int) (tn : ByteArray) (pr rt : Int) (pa tk : SL) : Prop where
  rd : Rf w rb l k bad
  le : k ≤ l.length
  lt : rb < w0.heap.size
  b0 : w.heap[w0.heap.size]? = some (.cells JB.zero.cells 30 (0, 0))
  b1 : w.heap[w0.heap.size + 1]? = some (.cells #[.int .i64 id, .string tn, .int .i64 pr, .int .i64 rt, .slice pa.a pa.n pa.c, .slice tk.a tk.n tk.c, .int .i64 0, .int .i64 0, .slice none 0 0, .int .i64 0, .slice none 0 0] 30 (0, 0))
  kp : RdK rb w0 w
section
variable {w0 w w' : World} {rb k k' : Nat} {l : List UInt8} {bad bad' : Bool} {id pr rt : Int} {tn : ByteArray} {pa tk : SL}
theorem RJ.read (h : RJ w0 w rb l k bad id tn pr rt pa tk) (hr : Rf w' rb l k' bad') (hk : k' ≤ l.length) (q : RdK rb w w') : RJ w0 w' rb l k' bad' id tn pr rt pa tk := by
  have h0 := (Array.getElem?_eq_some_iff.1 h.b0).1
  have h1 := (Array.getElem?_eq_some_iff.1 h.b1).1
  have := h.lt
  exact ⟨hr, hk, h.lt, (q.block _ h0 (by omega)).trans h.b0, (q.block _ h1 (by omega)).trans h.b1, h.kp.trans q⟩
theorem RJ.set (h : RJ w0 w rb l k bad id tn pr rt pa tk) {i : Nat} (v : Value) {id' pr' rt' : Int} {tn' : ByteArray} {pa' tk' : SL} (he : #[Value.int .i64 id, .string tn, .int .i64 pr, .int .i64 rt, .slice pa.a pa.n pa.c, .slice tk.a tk.n tk.c, .int .i64 0, .int .i64 0, .slice none 0 0, .int .i64 0, .slice none 0 0].setIfInBounds i v = #[Value.int .i64 id', .string tn', .int .i64 pr', .int .i64 rt', .slice pa'.a pa'.n pa'.c, .slice tk'.a tk'.n tk'.c, .int .i64 0, .int .i64 0, .slice none 0 0, .int .i64 0, .slice none 0 0]) : RJ w0 (w.setCell ⟨w0.heap.size + 1, i, none⟩ v) rb l k bad id' tn' pr' rt' pa' tk' := by
  refine ⟨rf_set_off h.rd (by have := h.lt; omega), h.le, h.lt, (Below.heap_setCell _ _ _ _ (fun e => by simp only at e; omega)).trans h.b0, ?_, rdk_set_new h.kp (by omega)⟩
  rw [← he]
  exact Joins.block_setCell h.b1 _
theorem froz_row {g i : Nat} {cs : Array Value} {t : TypeId} (h : w.heap[g]? = some (.cells cs t (0, 0))) : w.frozen? ⟨g, i, none⟩ = false := by
  unfold World.frozen?
  rw [h]
  simp
theorem RJ.ats (h : RJ w0 w rb l k bad id tn pr rt pa tk) : w.cell? ⟨w0.heap.size + 1, 0, none⟩ = some (.int .i64 id) ∧ w.cell? ⟨w0.heap.size + 1, 1, none⟩ = some (.string tn) ∧ w.cell? ⟨w0.heap.size + 1, 2, none⟩ = some (.int .i64 pr) ∧ w.cell? ⟨w0.heap.size + 1, 3, none⟩ = some (.int .i64 rt) ∧ w.cell? ⟨w0.heap.size + 1, 4, none⟩ = some (.slice pa.a pa.n pa.c) ∧ w.cell? ⟨w0.heap.size + 1, 5, none⟩ = some (.slice tk.a tk.n tk.c) ∧ ∀ i, w.frozen? ⟨w0.heap.size + 1, i, none⟩ = false :=
  ⟨Lib.cell_of_heap h.b1 0, Lib.cell_of_heap h.b1 1, Lib.cell_of_heap h.b1 2, Lib.cell_of_heap h.b1 3, Lib.cell_of_heap h.b1 4, Lib.cell_of_heap h.b1 5, fun _ => froz_row h.b1⟩
theorem RJ.start (h : Rf w rb l k bad) (hk : k ≤ l.length) : RJ w ((w.alloc (Obj.cells JB.zero.cells 30)).alloc (Obj.cells JB.zero.cells 30)) rb l k bad 0 ⟨#[]⟩ 0 0 .nil .nil := by
  have hB : Below w.heap.size w ((w.alloc (Obj.cells JB.zero.cells 30)).alloc (Obj.cells JB.zero.cells 30)) := ((Below.refl _ w).alloc (Nat.le_refl _) _).alloc (by simp) _
  have e0 : ((w.alloc (Obj.cells JB.zero.cells 30)).alloc (Obj.cells JB.zero.cells 30)).heap[w.heap.size]? = some (.cells JB.zero.cells 30 (0, 0)) := by
    refine (Below.heap_alloc _ _ _ (by simp)).trans ?_
    show (Array.push _ _)[_]? = _
    rw [Array.getElem?_push]
    exact if_pos rfl
  have e1 : ((w.alloc (Obj.cells JB.zero.cells 30)).alloc (Obj.cells JB.zero.cells 30)).heap[w.heap.size + 1]? = some (.cells JB.zero.cells 30 (0, 0)) := by
    show (Array.push _ _)[_]? = _
    rw [Array.getElem?_push]
    exact if_pos (by simp)
  exact ⟨h.below hB, hk, h.lt, e0, e1, RdK.of_below hB⟩
theorem RJ.grow (h : RJ w0 w rb l k bad id tn pr rt pa tk) (b : Below (w0.heap.size + 2) w w') : RJ w0 w' rb l k bad id tn pr rt pa tk := by
  have hlt := h.lt
  refine ⟨?_, h.le, hlt, (b.block _ (by omega)).trans h.b0, (b.block _ (by omega)).trans h.b1, ⟨b.os.trans h.kp.os, b.tape.trans h.kp.tape, b.output.trans h.kp.output, Nat.le_trans h.kp.size b.size, fun j hj hn => (b.block j (by omega)).trans (h.kp.block j hj hn)⟩⟩
  obtain ⟨p, c, h1, h2⟩ := h.rd
  refine ⟨p, c, (b.block rb (by omega)).trans h1, ?_, h2.nc, h2.bl, h2.cm⟩
  rcases h2.ly with e | ⟨g, o, rfl, hrow⟩
  · exact .inl e
  · refine .inr ⟨g, o, rfl, fun i x hx => ?_⟩
    have h3 := (h2.bl _ rfl).1
    have h4 := hrow i x hx
    unfold World.cell? at h4 ⊢
    rw [b.block g (by simp only at h3; omega)]
    exact h4
theorem RJ.drew (h : RJ w0 w rb l k bad id tn pr rt pa tk) (q : Nat) : RJ w0 (w.drewN q) rb l k bad id tn pr rt pa tk := ⟨h.rd.drew, h.le, h.lt, h.b0, h.b1, h.kp.drew⟩
theorem own_cell {S i B e size n : Nat} {v u : Value} {xs : List Value} (h : w.ownsRow B e size v n xs) (hB : S < B) : (w.setCell ⟨S, i, none⟩ u).ownsRow B e size v n xs := by
  refine ⟨h.1, ?_⟩
  rcases h.2 with h1 | ⟨g, cap, cur, h1, h2, h3, h4⟩
  · exact .inl h1
  · exact .inr ⟨g, cap, cur, h1, h2, (Below.heap_setCell _ _ _ _ (fun e => by simp only at e; omega)).trans h3, h4⟩
theorem own_below {B e size n : Nat} {v : Value} {xs : List Value} (h : w.ownsRow B e size v n xs) (b : Below w.heap.size w w') : w'.ownsRow B e size v n xs := by
  refine ⟨h.1, ?_⟩
  rcases h.2 with h1 | ⟨g, cap, cur, h1, h2, h3, h4⟩
  · exact .inl h1
  · exact .inr ⟨g, cap, cur, h1, h2, (b.block g (Array.getElem?_eq_some_iff.1 h3).1).trans h3, h4⟩
end
theorem below_grown {B : Nat} {w1 w2 : World} {r : Option Nat} (k : w1.grownBy w2 r) (hB : B ≤ w1.heap.size) (hr : ∀ g, r = some g → B ≤ g) : Below B w1 w2 :=
  ⟨k.os, k.tape, k.output, k.size, fun j hj => k.block j (Nat.lt_of_lt_of_le hj hB) fun e => by have := hr j e.symm; omega⟩
theorem upon_eq {P : Program} {o : Oper} {a : Act} {next : Act → World → Prop} {Q : Exit → Act → World → Prop} {X Y : Result Next} (e : X = Y) (k : Oper.upon P o a next Q Y) : Oper.upon P o a next Q X := by rw [e]; exact k
theorem upon_val {P : Program} {o : Oper} {a : Act} {next : Act → World → Prop} {Q : Exit → Act → World → Prop} {X : Result Value} {v : Value} {w4 : World} (h : X = .ok v w4) (k : next (a.put o.dst v) w4) : Oper.upon P o a next Q (X.andThen fun a w' => .ok (.value a) w') := by rw [h]; exact k
theorem info2r : (Try.prog.info? 2).map (fun i => (i.zero, i.size, i.bytes)) = some (some (.int .i64 0), 1, 8) := by kernel_rfl
end Go.Proofs.Ytnkkiepoljbhlaa
