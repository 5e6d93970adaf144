/-
  What a call does to the memory; blocks as functions of their cells; rows of pointers; maps of pointers.
-/
import Derived.Test.YtihjmigjphljnaaRows
import Derived.WalkKit
import Derived.WalkSpells
import Derived.Handy
import Derived.Outline
import Derived.Laws.ResultCell
import Derived.Deep.WholeRow
import Derived.WalkSmall
import Derived.BigQuiet
import Derived.Deep.QuietTactic
import Derived.Sort.AtCall
import Derived.Laws.AppendOwn
import Derived.Laws.AppendOwnNone
import Derived.OwnWalk
import Derived.Maps.OwnSet
import Derived.Maps.AppendAt
import Derived.WideShapes
import Derived.Lib.SmallJoins
namespace Go.Proofs.Ytihjmigjphljnaa.Tk
open Go.RowKit Go.Maps

theorem below_drewN {B : Nat} {a w : World} (h : Below B a w) (n : Nat) : Below B a (w.drewN n) := ⟨h.os, h.tape, h.output, h.size, h.block⟩
theorem below_from {B : Nat} {w W w1 : World} (h : Below B w W) (b : Below W.heap.size W w1) (hB : B ≤ W.heap.size) : Below B w w1 := h.trans (b.mono hB)
theorem at_below {W w1 : World} {g : Nat} {o : Obj} {B : Nat} (b : Below B W w1) (hB : W.heap.size ≤ B) (h : W.heap[g]? = some o) : w1.heap[g]? = some o :=
  (b.block g (Nat.lt_of_lt_of_le (Array.getElem?_eq_some_iff.1 h).1 hB)).trans h
theorem ret_b {a b : Bool} (h : a = b) : Ending.returned (.bool a) = .returned (.bool b) := by rw [h]
theorem new0 {w : World} {o : Obj} : (w.alloc o).heap[w.heap.size]? = some o := heap_alloc_new w o
theorem fz {w : World} {g : Nat} {cs : Array Value} {t : TypeId} (h : w.heap[g]? = some (.cells cs t (0, 0))) (i : Nat) : w.frozen? ⟨g, i, none⟩ = false := by
  unfold World.frozen?
  rw [h]
  simp
theorem setB {w : World} {g i : Nat} {cs : Array Value} {t : TypeId} (h : w.heap[g]? = some (.cells cs t (0, 0))) (v : Value) : (w.setCell ⟨g, i, none⟩ v).heap[g]? = some (.cells (cs.setIfInBounds i v) t (0, 0)) := Joins.block_setCell h v
theorem info_parts {t : TypeId} {z : Value} {s b : Nat} (h : (Try.prog.info? t).map (fun i => (i.zero, i.size, i.bytes)) = some (some z, s, b)) :
    ∃ i, Try.prog.info? t = some i ∧ i.zero = some z ∧ i.size = s ∧ i.bytes = b := by
  cases hq : Try.prog.info? t with
  | none => simp [hq] at h
  | some i =>
    simp [hq] at h
    exact ⟨i, rfl, h.1, h.2.1, h.2.2⟩

structure Kp (S : Nat → Prop) (w w' : World) : Prop where
  os : w'.os = w.os
  tape : w'.tape = w.tape
  output : w'.output = w.output
  size : w.heap.size ≤ w'.heap.size
  block : ∀ k, k < w.heap.size → ¬ S k → w'.heap[k]? = w.heap[k]?
theorem Kp.refl (S : Nat → Prop) (w : World) : Kp S w w := ⟨rfl, rfl, rfl, Nat.le_refl _, fun _ _ _ => rfl⟩
theorem Kp.trans {S S' : Nat → Prop} {a b c : World} (h : Kp S a b) (k : Kp S' b c) (hS : ∀ k, k < a.heap.size → S' k → S k) : Kp S a c :=
  ⟨k.os.trans h.os, k.tape.trans h.tape, k.output.trans h.output, Nat.le_trans h.size k.size, fun i hi hn => (k.block i (Nat.lt_of_lt_of_le hi h.size) (fun e => hn (hS i hi e))).trans (h.block i hi hn)⟩
theorem Kp.mono {S S' : Nat → Prop} {a b : World} (h : Kp S a b) (hS : ∀ k, k < a.heap.size → S k → S' k) : Kp S' a b := ⟨h.os, h.tape, h.output, h.size, fun k hk hn => h.block k hk fun e => hn (hS k hk e)⟩
theorem Kp.of_below {S : Nat → Prop} {a b : World} (h : Below a.heap.size a b) : Kp S a b := ⟨h.os, h.tape, h.output, h.size, fun k hk _ => h.block k hk⟩
theorem Kp.below {S : Nat → Prop} {B : Nat} {a b : World} (h : Kp S a b) (hB : B ≤ a.heap.size) (hS : ∀ k, k < B → ¬ S k) : Below B a b := ⟨h.os, h.tape, h.output, h.size, fun k hk => h.block k (Nat.lt_of_lt_of_le hk hB) (hS k hk)⟩
theorem Kp.of_grown {S : Nat → Prop} {a b : World} {r : Option Nat} (h : a.grownBy b r) (hS : ∀ k, r = some k → S k) : Kp S a b := ⟨h.os, h.tape, h.output, h.size, fun k hk hn => h.block k hk fun e => hn (hS k e.symm)⟩
theorem Kp.of_set {S : Nat → Prop} (w : World) (p : Addr) (u : Value) (h : S p.block) : Kp S w (w.setCell p u) := ⟨rfl, rfl, rfl, by simp [World.setCell], fun k _ hn => Below.heap_setCell _ _ _ _ (fun e => hn (e ▸ h))⟩
theorem Kp.drew {S : Nat → Prop} {a w : World} (h : Kp S a w) (n : Nat) : Kp S a (w.drewN n) := ⟨h.os, h.tape, h.output, h.size, h.block⟩
theorem Kp.alloc {S : Nat → Prop} (w : World) (o : Obj) : Kp S w (w.alloc o) := Kp.of_below ((Below.refl _ w).alloc (Nat.le_refl _) _)

/-! ### a block as a function of its cells -/
def Blk (w : World) (b : Nat) (t : TypeId) (n : Nat) (f : Nat → Value) : Prop := w.heap[b]? = some (.cells (Array.ofFn (n := n) fun i => f i.val) t (0, 0))
def fset (f : Nat → Value) (i : Nat) (v : Value) : Nat → Value := fun j => if j = i then v else f j
theorem Blk.lt {w : World} {b t n : Nat} {f : Nat → Value} (h : Blk w b t n f) : b < w.heap.size := (Array.getElem?_eq_some_iff.1 h).1
theorem Blk.cell {w : World} {b t n : Nat} {f : Nat → Value} (h : Blk w b t n f) (i : Nat) (hi : i < n) : w.cell? ⟨b, i, none⟩ = some (f i) := by
  unfold Blk at h
  unfold World.cell?
  rw [h]
  simp [hi]
theorem Blk.fz {w : World} {b t n : Nat} {f : Nat → Value} (h : Blk w b t n f) (i : Nat) : w.frozen? ⟨b, i, none⟩ = false := Go.Proofs.Ytihjmigjphljnaa.Tk.fz h i
theorem Blk.at {w w1 : World} {b t n : Nat} {f : Nat → Value} (h : Blk w b t n f) (e : w1.heap[b]? = w.heap[b]?) : Blk w1 b t n f := e.trans h
theorem Blk.other {w : World} {b t n : Nat} {f : Nat → Value} (h : Blk w b t n f) (p : Addr) (v : Value) (hp : p.block ≠ b) : Blk (w.setCell p v) b t n f :=
  (Below.heap_setCell w p v b (fun e => hp e.symm)).trans h
theorem Blk.set {w : World} {b t n : Nat} {f : Nat → Value} (h : Blk w b t n f) (i : Nat) (v : Value) : Blk (w.setCell ⟨b, i, none⟩ v) b t n (fset f i v) := by
  unfold Blk at *
  rw [setB h v]
  congr 1
  congr 1
  apply Array.ext
  · simp
  · intro j h1 h2
    have h3 : j < n := by simpa using h2
    rw [Array.getElem_ofFn, Array.getElem_setIfInBounds (by simpa using h3)]
    by_cases e : i = j
    · simp [e, fset]
    · simp [e, fset, Ne.symm e]
theorem Blk.same {w : World} {b t n : Nat} {f g : Nat → Value} (h : Blk w b t n f) (e : ∀ i, i < n → f i = g i) : Blk w b t n g := by
  unfold Blk at *
  rw [h]
  congr 1
  congr 1
  apply Array.ext
  · simp
  · intro j h1 h2
    simp at h1 h2 ⊢
    exact e j h1

/-! ### owned rows -/
theorem ownsKeep {w w1 : World} {B t s n : Nat} {v : Value} {xs : List Value} (h : w.ownsRow B t s v n xs) (b : ∀ g, v.ownBlock = some g → w1.heap[g]? = w.heap[g]?) : w1.ownsRow B t s v n xs := by
  refine ⟨h.1, ?_⟩
  rcases h.2 with hn | ⟨g, cap, cur, rfl, hb, hgg, rest⟩
  · exact .inl hn
  · exact .inr ⟨g, cap, cur, rfl, hb, (b g rfl).trans hgg, rest⟩
def RowV (w : World) (g o : Nat) (l : List Value) : Prop := ∀ (k : Nat) (x : Value), l[k]? = some x → w.cell? ⟨g, o + k, none⟩ = some x
theorem append_vals {ops : Array Oper} {rest : List Oper} {o : Oper} {a : Act} {Q : Exit → Act → World → Prop} {w : World} {t e : TypeId} {size bytes : Nat} {z : Value} (hu : Try.prog.underlying t = some (.slice e)) (hinfo : (Try.prog.info? e).map (fun i => (i.zero, i.size, i.bytes)) = some (some z, size, bytes)) (hzs : z.cells.size = size) (hsz : 0 < size)
    (hgd : o.guard = none) (s x : Operand) (ho : o.op = .call { callee := .builtin .append, args := #[s, x], argTypes := #[t, t] }) (B : Nat) (v : Value) (n : Nat) (xs : List Value) (hs : a.eval s = v) (hown : w.ownsRow B e size v n xs)
    (g off : Nat) (c m : Nat) (news : List Value) (hx : a.eval x = .slice (some ⟨g, off, none⟩) m c) (hl : news.length = m * size) (hm : RowV w g off news) (h1 : ∀ u ∈ news, u.oneCell' = true) (h63 : n + m ≤ maxLen) (hb : (n + m) * bytes ≤ 140737488355328) (hB : B ≤ w.heap.size)
    (h : ∀ v' w', w'.ownsRow B e size v' (n + m) (xs ++ news) → w.grownBy w' v.ownBlock → wpList Try.prog ops Q rest (a.put o.dst v') w') :
    wpList Try.prog ops Q (o :: rest) a w := by
  obtain ⟨i0, hi, hz0, hz1, hz2⟩ := info_parts hinfo
  refine wpList_append_own _ hgd s x t ho B e i0 z size bytes hu hi hz0 hz1 hz2 hzs hsz v n xs hs hown _ m c news hx hl (fun j u hj => ?_) h1 h63 hb hB (fun v' w' h1 h2 _ => h v' w' h1 h2)
  rw [Addr.add_lit]
  exact hm j u hj

/-! ### maps -/
theorem keepMap {H : Type} {w w1 : World} {P : Program} {k : TypeId} {R : Value → Option (DataW H × List MemPlace)} {b n : Nat} {D : DataW H} (h : w.ownsMap P k R b n D) (e : w1.heap[b]? = w.heap[b]?) : w1.ownsMap P k R b n D := by
  obtain ⟨es, clock, hb, r⟩ := h
  exact ⟨es, clock, e.trans hb, r⟩
theorem tight {H : Type} {w : World} {P : Program} {k : TypeId} {R : Value → Option (DataW H × List MemPlace)} {b n : Nat} {D : DataW H} (h : w.ownsMap P k R b n D) : w.ownsMap P k R b (Maps.size D) D := by
  obtain ⟨es, clock, hb, F, _, hD⟩ := h
  refine ⟨es, clock, hb, F, ?_, hD⟩
  rw [hD, Maps.size_eq, length_sorted]
  simp
/-- how an entry's pointer reads -/
def pE (v : Value) : Option (DataW Nat × List MemPlace) := match v with
  | .pointer (some ⟨b, 0, none⟩) => some (.held b, [])
  | .pointer none => some (.nil, [])
  | _ => none
theorem pE_held {v : Value} {b : Nat} {ps : List MemPlace} (h : pE v = some (.held b, ps)) : v = .pointer (some ⟨b, 0, none⟩) := by
  unfold pE at h
  split at h
  · cases h; rfl
  · cases h
  · cases h
theorem pE_nil {v : Value} {ps : List MemPlace} (h : pE v = some (.nil, ps)) : v = .pointer none := by
  unfold pE at h
  split at h
  · cases h
  · rfl
  · cases h
def ptr (b : Nat) : Value := .pointer (some ⟨b, 0, none⟩)
def optp : Option Nat → Value
  | none => .pointer none
  | some b => ptr b
end Go.Proofs.Ytihjmigjphljnaa.Tk
