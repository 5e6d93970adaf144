/-
  A slice of bytes that came in, with its capacity's bound.
-/
import Derived.Test.YtnohidalomjfmaaOpen
namespace Go.Proofs.Ytnohidalomjfmaa
open Go.ChangeShapes Go.WideShapes Go.ChangeAt Go.RowKit

set_option maxRecDepth 100000 in
/-- a slice of bytes that came in -/
theorem open_bytes2 {H : Type} {enc : TypeId × Value → H} {W : World} {base : Nat} {spare : Nat → Bool} {held : Bool} {v : Value} {x : DataW H} {p : List MemPlace} {r : Reach} {b0 : Nat} (hv : Value.okWide Try.prog W r b0 30 v) (h : DataW.Trod enc Try.prog W base spare held 30 v x p) :
    ∃ (q : Option Addr) (c : Nat) (l : List UInt8), v = .slice q l.length c ∧ Lies W q l ∧ (q = none → c = 0) ∧ l.length ≤ c ∧ c ≤ maxLen ∧ (x = .nil ∧ l = [] ∨ ∃ es rs, x = .slice es rs ∧ es.length = l.length) := by
  obtain ⟨a0, len, cap, rfl⟩ := okWide_slice Try.underlying30 hv
  obtain ⟨fuel, hf⟩ := h
  rcases DataW.trod_slice Try.underlying30 hf with ⟨hcs, hx⟩ | ⟨a, len', cap', elems, rest, n, _, hcs, hx, _, hl, hm, hlen, hel, _, _⟩
  · simp [Value.cells] at hcs
    obtain ⟨rfl, rfl, rfl⟩ := hcs
    simp only [Prod.mk.injEq] at hx
    exact ⟨none, 0, [], rfl, .inl rfl, fun _ => rfl, Nat.le_refl _, Nat.zero_le _, .inl ⟨hx.1, rfl⟩⟩
  · simp [Value.cells] at hcs
    obtain ⟨rfl, rfl, rfl⟩ := hcs
    simp only [Prod.mk.injEq] at hx
    obtain ⟨l, hll, hlies⟩ := opened_bytes hlen hel
    subst hll
    exact ⟨some a, cap, l, rfl, hlies, (fun e => by cases e), hl, hm, .inr ⟨_, _, hx.1, by simp [hlen]⟩⟩

end Go.Proofs.Ytnohidalomjfmaa
