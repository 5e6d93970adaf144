/-
  A script that came in.
-/
import Derived.Test.YtbaffgkopgbknaaOpk
import Derived.Test.YtbaffgkopgbknaaLz
import Derived.Deep.Strs
namespace Go.Proofs.Ytbaffgkopgbknaa
open Go.ChangeShapes Go.WideShapes Go.ChangeAt Go.RowKit

theorem cellsOf3 : Try.prog.cellsOf 3 = 1 := by kernel_rfl
theorem cellsOf34 : Try.prog.cellsOf 34 = 5 := by kernel_rfl
theorem len5 {l : List Value} (h : l.length = 5) : ∃ c0 c1 c2 c3 c4, l = [c0, c1, c2, c3, c4] := by
  match l, h with
  | [c0, c1, c2, c3, c4], _ => exact ⟨c0, c1, c2, c3, c4, rfl⟩
section
variable {H : Type} {enc : TypeId × Value → H} {W : World} {base : Nat} {spare : Nat → Bool} {held : Bool}
theorem elem34 {fuel : Nat} {c0 c1 c2 c3 c4 : Value} {x : DataW H × List MemPlace} (h : DataW.trod enc Try.prog W base spare held fuel 34 [c0, c1, c2, c3, c4] = some x) : ∃ o : OpR, o.ok ∧ [c0, c1, c2, c3, c4] = o.cs := by
  obtain ⟨y0, y1, y2, n, rfl, _, h0, h1, h2⟩ := Go.Deep.trod_struct3 Try.underlying34 h
  simp only [List.drop_zero, List.drop_succ_cons, cellsOf3, cellsOf32, List.take_succ_cons, List.take_zero] at h0 h1 h2
  obtain ⟨n0, e0, rfl, w0⟩ := DataW.trod_int Try.underlying3 h0
  obtain ⟨n1, e1, rfl, w1⟩ := DataW.trod_int Try.underlying3 h1
  obtain ⟨k, hk, ⟨rfl, rfl, rfl⟩, _⟩ := elem32 h2
  simp only [List.cons.injEq, and_true] at e0 e1
  exact ⟨⟨n0, n1, k⟩, ⟨w1, hk⟩, by rw [e0, e1]; rfl⟩
set_option maxRecDepth 100000 in
theorem open_script {v : Value} {x : DataW H} {p : List MemPlace} {r : Reach} {b0 : Nat} (hv : Value.okWide Try.prog W r b0 22 v) (h : DataW.Trod enc Try.prog W base spare held 22 v x p) :
    ∃ (q : Option Addr) (c : Nat) (L : List OpR), v = .slice q L.length c ∧ Scr W q L := by
  obtain ⟨a0, len, cap, rfl⟩ := okWide_slice Try.underlying22 hv
  obtain ⟨fuel, hf⟩ := h
  rcases DataW.trod_slice Try.underlying22 (show DataW.trod enc Try.prog W base spare held fuel 22 [.slice a0 len cap] = some (x, p) from hf) with ⟨hcs, hx⟩ | ⟨a, len', cap', elems, rest, n, _, hcs, hx, _, hl, hm, hlen, hel, _, _⟩
  · simp only [List.cons.injEq, and_true] at hcs
    exact ⟨none, 0, [], hcs, ⟨.inl rfl, nofun⟩⟩
  · simp only [List.cons.injEq, and_true] at hcs
    cases hcs
    match elems, hlen, hel with
    | [], hlen, _ => subst hlen; exact ⟨_, _, [], rfl, ⟨.inl rfl, nofun⟩⟩
    | y :: r, hlen, hel =>
      subst hlen
      have h0 := hel 0 (by simp)
      rw [cellsOf34, List.getElem?_cons_zero, Option.bind_eq_some_iff] at h0
      obtain ⟨cs, hcs, hy⟩ := h0
      obtain ⟨_, hl5, hcell⟩ := World.cells?_some hcs
      have k0 := hcell 0 (by omega)
      rw [List.getElem?_eq_getElem (by omega)] at k0
      have hs : a.spot = none := by simpa [Addr.add] using World.cell?_spot k0
      obtain ⟨b, off, spot⟩ := a
      simp only at hs
      subst hs
      obtain ⟨L, h1, h2, h3⟩ := opened OpR.cs (fun _ => rfl) (fun o _ => o.ok) (fun cs x hc h => by
        obtain ⟨c0, c1, c2, c3, c4, rfl⟩ := len5 hc
        obtain ⟨o, ho, e⟩ := elem34 h
        exact ⟨o, e, ho⟩) b (y :: r) off (fun i hi => by have := hel i hi; rwa [cellsOf34, add_plain] at this)
      exact ⟨some ⟨b, off, none⟩, _, L, by rw [h1], ⟨.inr ⟨b, off, rfl, h2⟩, fun k hk => by obtain ⟨_, _, q⟩ := h3 k hk; exact q⟩⟩
end
end Go.Proofs.Ytbaffgkopgbknaa
