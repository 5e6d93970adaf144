/-
  The laws' arguments, opened, for the form up to a bound: rows of texts.
-/
import Derived.Test.YtnjnfbfjmeofaaaOpk
namespace Go.Proofs.Ytnjnfbfjmeofaaa
open Go.ChangeShapes Go.WideShapes Go.ChangeAt Go.RowKit

theorem bulk_mem {H : Type} {d : DataW H} : ∀ {l : List (DataW H)}, d ∈ l → Rows.uptoBulk d ≤ Rows.uptoBulkAll l
  | [], h => by cases h
  | x :: r, h => by
    simp only [Rows.uptoBulkAll]
    rcases List.mem_cons.1 h with rfl | h
    · omega
    · have := bulk_mem h
      omega
section
variable {H : Type} {enc : TypeId × Value → H} {W : World} {base : Nat} {spare : Nat → Bool} {held : Bool}
theorem open_texts2 {v : Value} {x : DataW H} {p : List MemPlace} {r : Reach} {b0 : Nat} (hv : Value.okWide Try.prog W r b0 39 v) (h : DataW.Trod enc Try.prog W base spare held 39 v x p) :
    ∃ (q : Option Addr) (c : Nat) (l : List ByteArray), v = .slice q l.length c ∧ Arg W q (strV l) ∧ (∀ t ∈ l, t.size ≤ Rows.uptoBulk x) ∧ l.length ≤ maxLen := by
  obtain ⟨a0, len, cap, rfl⟩ := okWide_slice Try.underlying39 hv
  obtain ⟨fuel, hf⟩ := h
  rcases DataW.trod_slice Try.underlying39 (show DataW.trod enc Try.prog W base spare held fuel 39 [.slice a0 len cap] = some (x, p) from hf) with ⟨hcs, hx⟩ | ⟨a, len', cap', elems, rest, n, _, hcs, hx, _, hl, hm, hlen, hel, _, _⟩
  · simp only [List.cons.injEq, and_true] at hcs
    rw [hcs]
    exact ⟨none, 0, [], rfl, LiesV.arg (.inl rfl), (fun t h => by cases h), Nat.zero_le _⟩
  · simp only [List.cons.injEq, and_true] at hcs
    cases hcs
    simp only [Prod.mk.injEq] at hx
    obtain ⟨rfl, _⟩ := hx
    subst hlen
    obtain ⟨l, h1, h2, h3⟩ := slice_row (fun t : ByteArray => [.string t]) (fun _ => rfl) cellsOf9 Nat.one_pos (fun t d => d = .lit (.string t.data.toList)) (fun cs x h => by
      obtain ⟨m, e, rfl, _⟩ := DataW.trod_string Try.underlying9 h
      exact ⟨m, e, rfl⟩) a elems hel
    have e : l.flatMap (fun t : ByteArray => [Value.string t]) = strV l := by unfold strV; rw [← List.map_eq_flatMap]
    rw [e] at h2
    refine ⟨some a, cap, l, by rw [h1], h2.arg, fun t ht => ?_, by omega⟩
    obtain ⟨y, hy, hq⟩ := h3 t ht
    have := bulk_mem (List.mem_map_of_mem (f := (·.1)) hy)
    rw [hq] at this
    simp only [Rows.uptoBulk] at this ⊢
    rw [Lib.size_eq]
    omega
end
end Go.Proofs.Ytnjnfbfjmeofaaa
