/-
  Two vectors, two numbers, opened.
-/
import Derived.Test.YtkfpbpkadkhhnaaOpen
namespace Go.Proofs.Ytkfpbpkadkhhnaa
open Go.ChangeShapes Go.WideShapes Go.ChangeAt Go.RowKit

theorem arr8 {α : Type} {cs : Array α} (h : cs.size = 8) : ∃ c0 c1 c2 c3 c4 c5 c6 c7, cs = #[c0, c1, c2, c3, c4, c5, c6, c7] := by
  obtain ⟨l⟩ := cs
  match l, h with
  | [c0, c1, c2, c3, c4, c5, c6, c7], _ => exact ⟨c0, c1, c2, c3, c4, c5, c6, c7, rfl⟩
theorem arr2 {α : Type} {cs : Array α} (h : cs.size = 2) : ∃ c0 c1, cs = #[c0, c1] := by
  obtain ⟨l⟩ := cs
  match l, h with
  | [c0, c1], _ => exact ⟨c0, c1, rfl⟩
section
variable {H : Type} {enc : TypeId × Value → H} {W : World} {base : Nat} {spare : Nat → Bool} {held : Bool}
theorem open_two {r : Reach} {b0 : Nat} {v : Value} {x : DataW H} {p : List MemPlace} (hv : Value.okWide Try.prog W r b0 49 v) (h : DataW.Trod enc Try.prog W base spare held 49 v x p) :
    ∃ k u : V, v = .agg #[.int .i64 k.a, .int .i64 k.b, .int .i64 k.c, .int .i64 k.d, .int .i64 u.a, .int .i64 u.b, .int .i64 u.c, .int .i64 u.d] := by
  obtain ⟨cs, rfl, hsz⟩ := okWide_arr Try.underlying49 hv
  obtain ⟨c0, c1, c2, c3, c4, c5, c6, c7, rfl⟩ := arr8 (hsz.trans cellsOf49)
  obtain ⟨fuel, hf⟩ := h
  obtain ⟨xs, m, _, hx, _, hlen, hget⟩ := DataW.trod_array Try.underlying49 (show DataW.trod enc Try.prog W base spare held fuel 49 [c0, c1, c2, c3, c4, c5, c6, c7] = some (x, p) from hf)
  have g0 := hget 0 (by omega)
  have g1 := hget 1 (by omega)
  match xs, hlen with
  | [x0, x1], _ =>
    simp only [cellsOf23, Nat.zero_mul, Nat.one_mul, List.drop_zero, List.drop_succ_cons, List.take_succ_cons, List.take_zero, List.getElem?_cons_zero, List.getElem?_cons_succ] at g0 g1
    obtain ⟨a, b, c, d, _, ⟨rfl, rfl, rfl, rfl⟩, _⟩ := elem23 g0
    obtain ⟨a', b', c', d', _, ⟨rfl, rfl, rfl, rfl⟩, _⟩ := elem23 g1
    exact ⟨⟨a, b, c, d⟩, ⟨a', b', c', d'⟩, rfl⟩
theorem open_nums {r : Reach} {b0 : Nat} {v : Value} {x : DataW H} {p : List MemPlace} (hv : Value.okWide Try.prog W r b0 50 v) (h : DataW.Trod enc Try.prog W base spare held 50 v x p) :
    ∃ m n : Int, (-9223372036854775808 ≤ m ∧ m ≤ 9223372036854775807) ∧ v = .agg #[.int .i64 m, .int .i64 n] := by
  obtain ⟨cs, rfl, hsz⟩ := okWide_arr Try.underlying50 hv
  obtain ⟨c0, c1, rfl⟩ := arr2 (hsz.trans cellsOf50)
  obtain ⟨fuel, hf⟩ := h
  obtain ⟨xs, m, _, hx, _, hlen, hget⟩ := DataW.trod_array Try.underlying50 (show DataW.trod enc Try.prog W base spare held fuel 50 [c0, c1] = some (x, p) from hf)
  have g0 := hget 0 (by omega)
  have g1 := hget 1 (by omega)
  match xs, hlen with
  | [x0, x1], _ =>
    simp only [cellsOf2, Nat.zero_mul, Nat.one_mul, List.drop_zero, List.drop_succ_cons, List.take_succ_cons, List.take_zero, List.getElem?_cons_zero, List.getElem?_cons_succ] at g0 g1
    obtain ⟨n0, e0, _, w0⟩ := DataW.trod_int Try.underlying2 g0
    have hb := bounds_i64 w0
    obtain ⟨n1, e1, _, _⟩ := DataW.trod_int Try.underlying2 g1
    simp only [List.cons.injEq, and_true] at e0 e1
    exact ⟨n0, n1, ⟨by omega, by omega⟩, by rw [e0, e1]⟩
end
end Go.Proofs.Ytkfpbpkadkhhnaa
