/-
  Two slices of bytes in an array that came in.
-/
import Derived.Test.YtnohidalomjfmaaOpen
namespace Go.Proofs.Ytnohidalomjfmaa
open Go.ChangeShapes Go.WideShapes Go.ChangeAt Go.RowKit

theorem cellsOf37 : Try.prog.cellsOf 37 = 2 := by kernel_rfl
theorem cellsOf30 : Try.prog.cellsOf 30 = 1 := by kernel_rfl
theorem okWide_arr {n : Nat} {e t : TypeId} {P : Program} {w : World} {r : Reach} {b : Nat} {v : Value} (ht : P.underlying t = some (.array n e)) (h : Value.okWide P w r b t v) : ∃ cs, v = .agg cs ∧ cs.size = P.cellsOf t := by
  simp only [Value.okWide, ht] at h
  obtain ⟨cs, h1, h2, _⟩ := h
  exact ⟨cs, h1, h2⟩
theorem arr2 {α : Type} {cs : Array α} (h : cs.size = 2) : ∃ c0 c1, cs = #[c0, c1] := by
  obtain ⟨l⟩ := cs
  match l, h with
  | [c0, c1], _ => exact ⟨c0, c1, rfl⟩
theorem elem30 {H : Type} {enc : TypeId × Value → H} {W : World} {base : Nat} {spare : Nat → Bool} {held : Bool} {fuel : Nat} {c0 : Value} {x : DataW H × List MemPlace} (h : DataW.trod enc Try.prog W base spare held fuel 30 [c0] = some x) :
    ∃ (q : Option Addr) (c : Nat) (l : List UInt8), c0 = .slice q l.length c ∧ Lies W q l ∧ (q = none → c = 0) ∧ l.length ≤ c := by
  rcases DataW.trod_slice Try.underlying30 h with ⟨hcs, hx⟩ | ⟨a, len', cap', elems, rest, n, _, hcs, hx, _, hl, hm, hlen, hel, _, _⟩
  · simp only [List.cons.injEq, and_true] at hcs
    exact ⟨none, 0, [], hcs, .inl rfl, fun _ => rfl, Nat.le_refl _⟩
  · simp only [List.cons.injEq, and_true] at hcs
    obtain ⟨l, hll, hlies⟩ := opened_bytes hlen hel
    subst hll
    exact ⟨some a, cap', l, hcs, hlies, (fun e => by cases e), hl⟩
set_option maxRecDepth 100000 in
theorem open_two {H : Type} {enc : TypeId × Value → H} {W : World} {base : Nat} {spare : Nat → Bool} {held : Bool} {r : Reach} {b0 : Nat} {v : Value} {x : DataW H} {p : List MemPlace} (hv : Value.okWide Try.prog W r b0 37 v) (h : DataW.Trod enc Try.prog W base spare held 37 v x p) :
    ∃ (q : Option Addr) (c : Nat) (l : List UInt8) (q' : Option Addr) (c' : Nat) (l' : List UInt8), v = .agg #[.slice q l.length c, .slice q' l'.length c'] ∧ (Lies W q l ∧ (q = none → c = 0) ∧ l.length ≤ c) ∧ (Lies W q' l' ∧ (q' = none → c' = 0) ∧ l'.length ≤ c') := by
  obtain ⟨cs, rfl, hsz⟩ := okWide_arr Try.underlying37 hv
  obtain ⟨c0, c1, rfl⟩ := arr2 (hsz.trans cellsOf37)
  obtain ⟨fuel, hf⟩ := h
  obtain ⟨xs, m, _, hx, _, hlen, hget⟩ := DataW.trod_array Try.underlying37 (show DataW.trod enc Try.prog W base spare held fuel 37 [c0, c1] = some (x, p) from hf)
  have g0 := hget 0 (by omega)
  have g1 := hget 1 (by omega)
  match xs, hlen with
  | [x0, x1], _ =>
    simp only [cellsOf30, Nat.zero_mul, Nat.one_mul, List.drop_zero, List.drop_succ_cons, List.take_succ_cons, List.take_zero, List.getElem?_cons_zero, List.getElem?_cons_succ] at g0 g1
    obtain ⟨q, c, l, rfl, h0⟩ := elem30 g0
    obtain ⟨q', c', l', rfl, h1⟩ := elem30 g1
    exact ⟨q, c, l, q', c', l', rfl, h0, h1⟩
end Go.Proofs.Ytnohidalomjfmaa
