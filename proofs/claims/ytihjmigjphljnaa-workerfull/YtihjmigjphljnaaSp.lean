/-
  What a call may write (Step); which nodes are no giants (Nd.ok).
-/
import Derived.Test.YtihjmigjphljnaaAa
import Derived.Test.YtihjmigjphljnaaTWa
namespace Go.Proofs.Ytihjmigjphljnaa
open Go.RowKit Go.Maps
open Tk

/-- a node's name may be a key and is no giant -/
def Nd.ok (n : Nd) : Prop := n.nm.size ≤ 281474976710656 ∧ (1 ≤ n.ep ∧ n.ep ≤ 2147483647) ∧ n.v.ok = true ∧ 0 ≤ n.sn ∧ n.sn ≤ 1099511627776
/-! ### what a call does -/
def Step (S S' : Nat → Prop) (w w' : World) : Prop := Kp S w w' ∧ ∀ k, S' k → S k ∨ w.heap.size ≤ k
theorem Step.refl (S : Nat → Prop) (w : World) : Step S S w w := ⟨Kp.refl _ _, fun _ h => .inl h⟩
theorem Step.trans {t t1 t2 : Nat → Prop} {a b c : World} (h : Step t t1 a b) (k : Step t1 t2 b c) : Step t t2 a c :=
  ⟨h.1.trans k.1 fun i hi e => (h.2 i e).resolve_right (by omega), fun i hi => by
    rcases k.2 i hi with h1 | h1
    · exact h.2 i h1
    · exact .inr (Nat.le_trans h.1.size h1)⟩
theorem Step.of_below (S : Nat → Prop) {w w1 : World} (b : Below w.heap.size w w1) : Step S S w w1 := ⟨Kp.of_below b, fun _ h => .inl h⟩
theorem Step.mono {S S1 S' : Nat → Prop} {w w1 : World} (h : Step S S' w w1) (hS : ∀ k, S k → S1 k) : Step S1 S' w w1 := ⟨h.1.mono fun k _ q => hS k q, fun k q => (h.2 k q).imp (hS k) id⟩
theorem c1 {w : World} {g : Nat} {x : Value} {t : TypeId} (h : w.heap[g]? = some (.cells #[x] t (0, 0))) : w.cell? ⟨g, 0, none⟩ = some x := by rw [cell_of h]; rfl
end Go.Proofs.Ytihjmigjphljnaa
