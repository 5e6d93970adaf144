/-
  Lists of small numbers that came in.
-/
import Derived.Test.YtmcmldlnmmbbgaaOpk
import Derived.Test.YtmcmldlnmmbbgaaPv
namespace Go.Proofs.Ytmcmldlnmmbbgaa
open Go.ChangeShapes Go.WideShapes Go.ChangeAt Go.RowKit
theorem cells56 : Try.prog.cellsOf 56 = 1 := by kernel_rfl
theorem one1 {l : List Value} (h : l.length = 1) : ∃ c0, l = [c0] := by
  match l, h with
  | [c0], _ => exact ⟨c0, rfl⟩
theorem flatT (l : List Nat) : l.flatMap (fun (t : Nat) => [Value.int .u16 (t : Int)]) = l.map fun (t : Nat) => Value.int .u16 (t : Int) := by
  induction l with
  | nil => rfl
  | cons v l ih => rw [List.flatMap_cons, ih]; rfl
section
variable {H : Type} {enc : TypeId × Value → H} {W : World} {base : Nat} {spare : Nat → Bool} {held : Bool}
set_option maxRecDepth 100000 in
theorem open_turns {v : Value} {x : DataW H} {p : List MemPlace} {r : Reach} {b0 : Nat} (hv : Value.okWide Try.prog W r b0 55 v) (h : DataW.Trod enc Try.prog W base spare held 55 v x p) :
    ∃ (q : Option Addr) (c : Nat) (L : List Nat), v = .slice q L.length c ∧ Tns W q L := by
  obtain ⟨a0, len, cap, rfl⟩ := okWide_slice Try.underlying55 hv
  obtain ⟨fuel, hf⟩ := h
  rcases DataW.trod_slice Try.underlying55 (show DataW.trod enc Try.prog W base spare held fuel 55 [.slice a0 len cap] = some (x, p) from hf) with ⟨hcs, hx⟩ | ⟨a, len', cap', elems, rest, n, _, hcs, hx, _, hl, hm, hlen, hel, _, _⟩
  · simp only [List.cons.injEq, and_true] at hcs
    exact ⟨none, 0, [], hcs, ⟨.inl rfl, nofun⟩⟩
  · simp only [List.cons.injEq, and_true] at hcs
    cases hcs
    match elems, hlen, hel with
    | [], hlen, _ => subst hlen; exact ⟨_, _, [], rfl, ⟨.inl rfl, nofun⟩⟩
    | y :: r, hlen, hel =>
      subst hlen
      have h0 := hel 0 (by simp)
      rw [cells56, List.getElem?_cons_zero, Option.bind_eq_some_iff] at h0
      obtain ⟨cs, hcs, hy⟩ := h0
      obtain ⟨_, hl5, hcell⟩ := World.cells?_some hcs
      have k0 := hcell 0 (by omega)
      rw [List.getElem?_eq_getElem (by omega)] at k0
      have hs : a.spot = none := by simpa [Addr.add] using World.cell?_spot k0
      obtain ⟨b, off, spot⟩ := a
      simp only at hs
      subst hs
      obtain ⟨L, h1, h2, h3⟩ := opened (fun (t : Nat) => [Value.int .u16 (t : Int)]) (fun _ => rfl) (fun t _ => t < 65536) (fun cs x hc h => by
        obtain ⟨c0, rfl⟩ := one1 hc
        obtain ⟨z, e0, _, wz⟩ := DataW.trod_int Try.underlying56 h
        have hz := bounds_u16 wz
        simp only [List.cons.injEq, and_true] at e0
        exact ⟨z.toNat, by rw [e0, show ((z.toNat : Nat) : Int) = z by omega], by omega⟩) b (y :: r) off (fun i hi => by have := hel i hi; rwa [cells56, add_plain] at this)
      rw [flatT] at h2
      exact ⟨some ⟨b, off, none⟩, _, L, by rw [h1], ⟨.inr ⟨b, off, rfl, h2⟩, fun k hk => by obtain ⟨_, _, q⟩ := h3 k hk; exact q⟩⟩
end
end Go.Proofs.Ytmcmldlnmmbbgaa
