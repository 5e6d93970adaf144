/-
  The laws' arguments, opened: a list of bytes.
-/
import Derived.Test.YtplcpjngpkghmaaBase
import Derived.ProofKit
import Derived.OpenShut
import Derived.SizedLaws
namespace Go.Proofs.Ytplcpjngpkghmaa
open Go.ChangeShapes Go.WideShapes Go.ChangeAt Go.RowKit

theorem cellsOf5 : Try.prog.cellsOf 5 = 1 := by kernel_rfl
theorem bytesOf5 : Try.prog.bytesOf 5 = 1 := by kernel_rfl
theorem laidOut : laidOutB Try.prog = true := by kernel_rfl
theorem add_plain (b off j : Nat) : (⟨b, off, none⟩ : Addr).add j = ⟨b, off + j, none⟩ := by unfold Addr.add; split <;> simp_all
theorem one1 {l : List Value} (h : l.length = 1) : ∃ c0, l = [c0] := by
  match l, h with
  | [c0], _ => exact ⟨c0, rfl⟩

theorem byte_of {n : Int} (h : (Lit.int .u8 n).wf = true) : ∃ x : UInt8, n = (x.toNat : Int) := by
  have hb : 0 ≤ n ∧ n ≤ 255 := by
    simp [Lit.wf, IntKind.min, IntKind.max] at h
    revert h
    simp [IntKind.signed, IntKind.bits]
  refine ⟨UInt8.ofNat n.toNat, ?_⟩
  rw [UInt8.toNat_ofNat']
  omega

theorem opened_bytes {H : Type} {enc : TypeId × Value → H} {W : World} {base : Nat} {spare : Nat → Bool} {held : Bool} {a : Addr} {len n : Nat} {elems : List (DataW H × List MemPlace)} (hlen : elems.length = len)
    (hel : ∀ i, i < len → (W.cells? base (a.add (i * Try.prog.cellsOf 5)) (Try.prog.cellsOf 5)).bind (DataW.trod enc Try.prog W base spare held n 5) = elems[i]?) :
    ∃ l : List UInt8, l.length = len ∧ Lies W (some a) l := by
  have spot0 : 0 < len → a.spot = none := by
    intro hi
    have h := hel 0 hi
    rw [cellsOf5, List.getElem?_eq_getElem (by omega), Option.bind_eq_some_iff] at h
    obtain ⟨cs, hcs, hy⟩ := h
    obtain ⟨_, hl, hc⟩ := World.cells?_some hcs
    obtain ⟨c0, rfl⟩ := one1 hl
    have k0 := hc 0 (by omega)
    simp only [List.getElem?_cons_zero] at k0
    simpa [Addr.add] using World.cell?_spot k0
  have one : ∀ i, i < len → ∃ x : UInt8, ∃ b off : Nat, a = ⟨b, off, none⟩ ∧ W.cell? ⟨b, off + i, none⟩ = some (.int .u8 x.toNat) := by
    intro i hi
    have h := hel i hi
    rw [cellsOf5, List.getElem?_eq_getElem (by omega), Option.bind_eq_some_iff] at h
    obtain ⟨cs, hcs, hy⟩ := h
    obtain ⟨_, hl, hc⟩ := World.cells?_some hcs
    obtain ⟨c0, rfl⟩ := one1 hl
    have k0 := hc 0 (by omega)
    simp only [List.getElem?_cons_zero] at k0
    obtain ⟨m, e0, _, w0⟩ := DataW.trod_int Try.underlying5 hy
    simp only [List.cons.injEq, and_true] at e0
    subst e0
    obtain ⟨x, rfl⟩ := byte_of w0
    have hs : a.spot = none := spot0 (by omega)
    obtain ⟨b, off, spot⟩ := a
    simp only at hs
    subst hs
    rw [add_plain, add_plain, Nat.add_zero, Nat.mul_one] at k0
    exact ⟨x, b, off, rfl, k0⟩
  by_cases h0 : len = 0
  · exact ⟨[], h0.symm, .inl rfl⟩
  · obtain ⟨_, b, off, rfl, _⟩ := one 0 (by omega)
    have two : ∀ i, ∃ x : UInt8, i < len → W.cell? ⟨b, off + i, none⟩ = some (.int .u8 x.toNat) := by
      intro i
      by_cases hi : i < len
      · obtain ⟨v, b', off', e, h⟩ := one i hi
        simp only [Addr.mk.injEq, and_true] at e
        obtain ⟨rfl, rfl⟩ := e
        exact ⟨v, fun _ => h⟩
      · exact ⟨0, fun h => absurd h hi⟩
    obtain ⟨f, hf⟩ := Classical.axiomOfChoice two
    refine ⟨(List.range len).map f, by simp, .inr ⟨b, off, rfl, fun i v hv => ?_⟩⟩
    have hi : i < len := by have := (List.getElem?_eq_some_iff.1 hv).1; simpa using this
    obtain rfl : f i = v := by simpa [hi] using hv
    exact hf i hi

set_option maxRecDepth 100000 in
/-- a slice of bytes that came in -/
theorem open_bytes {H : Type} {enc : TypeId × Value → H} {W : World} {base : Nat} {spare : Nat → Bool} {held : Bool} {v : Value} {x : DataW H} {p : List MemPlace} {r : Reach} {b0 : Nat} (hv : Value.okWide Try.prog W r b0 31 v) (h : DataW.Trod enc Try.prog W base spare held 31 v x p) :
    ∃ (q : Option Addr) (c : Nat) (l : List UInt8), v = .slice q l.length c ∧ Lies W q l ∧ (q = none → c = 0) ∧ l.length ≤ c ∧ (x = .nil ∧ l = [] ∨ ∃ es rs, x = .slice es rs ∧ es.length = l.length) := by
  obtain ⟨a0, len, cap, rfl⟩ := okWide_slice Try.underlying31 hv
  obtain ⟨fuel, hf⟩ := h
  rcases DataW.trod_slice Try.underlying31 hf with ⟨hcs, hx⟩ | ⟨a, len', cap', elems, rest, n, _, hcs, hx, _, hl, hm, hlen, hel, _, _⟩
  · simp [Value.cells] at hcs
    obtain ⟨rfl, rfl, rfl⟩ := hcs
    simp only [Prod.mk.injEq] at hx
    exact ⟨none, 0, [], rfl, .inl rfl, fun _ => rfl, Nat.le_refl _, .inl ⟨hx.1, rfl⟩⟩
  · simp [Value.cells] at hcs
    obtain ⟨rfl, rfl, rfl⟩ := hcs
    simp only [Prod.mk.injEq] at hx
    obtain ⟨l, hll, hlies⟩ := opened_bytes hlen hel
    subst hll
    exact ⟨some a, cap, l, rfl, hlies, (fun e => by cases e), hl, .inr ⟨_, _, hx.1, by simp [hlen]⟩⟩

end Go.Proofs.Ytplcpjngpkghmaa
