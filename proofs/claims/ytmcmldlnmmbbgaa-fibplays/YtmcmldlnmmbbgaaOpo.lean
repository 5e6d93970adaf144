/-
  A script that came in.
-/
import Derived.Test.YtmcmldlnmmbbgaaOpk
import Derived.Test.YtmcmldlnmmbbgaaZr
namespace Go.Proofs.Ytmcmldlnmmbbgaa
open Go.ChangeShapes Go.WideShapes Go.ChangeAt Go.RowKit

theorem cellsOf3 : Try.prog.cellsOf 3 = 1 := by kernel_rfl
theorem cellsOf39 : Try.prog.cellsOf 39 = 6 := by kernel_rfl
theorem len6 {l : List Value} (h : l.length = 6) : ∃ c0 c1 c2 c3 c4 c5, l = [c0, c1, c2, c3, c4, c5] := by
  match l, h with
  | [c0, c1, c2, c3, c4, c5], _ => exact ⟨c0, c1, c2, c3, c4, c5, rfl⟩
section
variable {H : Type} {enc : TypeId × Value → H} {W : World} {base : Nat} {spare : Nat → Bool} {held : Bool}
theorem trod_struct4 {P : Program} {t : TypeId} {f0 f1 f2 f3 : Field} {fuel : Nat} {cs : List Value} {x : DataW H × List MemPlace} (ht : P.underlying t = some (.struct #[f0, f1, f2, f3])) (h : DataW.trod enc P W base spare held fuel t cs = some x) :
    ∃ y0 y1 y2 y3 n, DataW.trod enc P W base spare held n f0.type ((cs.drop f0.offset).take (P.cellsOf f0.type)) = some y0 ∧ DataW.trod enc P W base spare held n f1.type ((cs.drop f1.offset).take (P.cellsOf f1.type)) = some y1 ∧ DataW.trod enc P W base spare held n f2.type ((cs.drop f2.offset).take (P.cellsOf f2.type)) = some y2 ∧ DataW.trod enc P W base spare held n f3.type ((cs.drop f3.offset).take (P.cellsOf f3.type)) = some y3 := by
  obtain ⟨xs, n, _, rfl, hl, hlen, hf⟩ := DataW.trod_struct ht h
  match xs, hlen with
  | [y0, y1, y2, y3], _ => exact ⟨y0, y1, y2, y3, n, by simpa using hf 0 f0 rfl, by simpa using hf 1 f1 rfl, by simpa using hf 2 f2 rfl, by simpa using hf 3 f3 rfl⟩
theorem elem39 {fuel : Nat} {c0 c1 c2 c3 c4 c5 : Value} {x : DataW H × List MemPlace} (h : DataW.trod enc Try.prog W base spare held fuel 39 [c0, c1, c2, c3, c4, c5] = some x) : ∃ o : OpR, o.ok ∧ [c0, c1, c2, c3, c4, c5] = o.cs := by
  obtain ⟨y0, y1, y2, y3, n, h0, h1, h2, h3⟩ := trod_struct4 Try.underlying39 h
  simp only [List.drop_zero, List.drop_succ_cons, cellsOf3, cells37, List.take_succ_cons, List.take_zero] at h0 h1 h2 h3
  obtain ⟨n0, e0, _, w0⟩ := DataW.trod_int Try.underlying3 h0
  obtain ⟨n1, e1, _, w1⟩ := DataW.trod_int Try.underlying3 h1
  obtain ⟨n2, e2, _, w2⟩ := DataW.trod_int Try.underlying3 h2
  obtain ⟨kn, kd, kt, hn, hd, ht, rfl, rfl, rfl, _⟩ := elem37 h3
  simp only [List.cons.injEq, and_true] at e0 e1 e2
  exact ⟨⟨n0, n1, n2, ⟨kn, kd, kt⟩⟩, ⟨w2, ⟨hn, hd⟩⟩, by rw [e0, e1, e2]; rfl⟩
set_option maxRecDepth 100000 in
theorem open_script {v : Value} {x : DataW H} {p : List MemPlace} {r : Reach} {b0 : Nat} (hv : Value.okWide Try.prog W r b0 22 v) (h : DataW.Trod enc Try.prog W base spare held 22 v x p) :
    ∃ (q : Option Addr) (c : Nat) (L : List OpR), v = .slice q L.length c ∧ Scr W q L := by
  obtain ⟨a0, len, cap, rfl⟩ := okWide_slice Try.underlying22 hv
  obtain ⟨fuel, hf⟩ := h
  rcases DataW.trod_slice Try.underlying22 (show DataW.trod enc Try.prog W base spare held fuel 22 [.slice a0 len cap] = some (x, p) from hf) with ⟨hcs, hx⟩ | ⟨a, len', cap', elems, rest, n, _, hcs, hx, _, hl, hm, hlen, hel, _, _⟩
  · simp only [List.cons.injEq, and_true] at hcs
    exact ⟨none, 0, [], hcs, ⟨.inl rfl, nofun⟩⟩
  · simp only [List.cons.injEq, and_true] at hcs
    cases hcs
    match elems, hlen, hel with
    | [], hlen, _ => subst hlen; exact ⟨_, _, [], rfl, ⟨.inl rfl, nofun⟩⟩
    | y :: r, hlen, hel =>
      subst hlen
      have h0 := hel 0 (by simp)
      rw [cellsOf39, List.getElem?_cons_zero, Option.bind_eq_some_iff] at h0
      obtain ⟨cs, hcs, hy⟩ := h0
      obtain ⟨_, hl5, hcell⟩ := World.cells?_some hcs
      have k0 := hcell 0 (by omega)
      rw [List.getElem?_eq_getElem (by omega)] at k0
      have hs : a.spot = none := by simpa [Addr.add] using World.cell?_spot k0
      obtain ⟨b, off, spot⟩ := a
      simp only at hs
      subst hs
      obtain ⟨L, h1, h2, h3⟩ := opened OpR.cs (fun _ => rfl) (fun o _ => o.ok) (fun cs x hc h => by
        obtain ⟨c0, c1, c2, c3, c4, c5, rfl⟩ := len6 hc
        obtain ⟨o, ho, e⟩ := elem39 h
        exact ⟨o, e, ho⟩) b (y :: r) off (fun i hi => by have := hel i hi; rwa [cellsOf39, add_plain] at this)
      exact ⟨some ⟨b, off, none⟩, _, L, by rw [h1], ⟨.inr ⟨b, off, rfl, h2⟩, fun k hk => by obtain ⟨_, _, q⟩ := h3 k hk; exact q⟩⟩
end
end Go.Proofs.Ytmcmldlnmmbbgaa
