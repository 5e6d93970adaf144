/-
  Lists of keys that came in.
-/
import Derived.Test.YtmcmldlnmmbbgaaOpen
import Derived.Test.YtmcmldlnmmbbgaaPp
namespace Go.Proofs.Ytmcmldlnmmbbgaa
open Go.ChangeShapes Go.WideShapes Go.ChangeAt Go.RowKit
theorem laidOut : laidOutB Try.prog = true := by kernel_rfl
theorem add_plain (b off j : Nat) : (⟨b, off, none⟩ : Addr).add j = ⟨b, off + j, none⟩ := by unfold Addr.add; split <;> simp_all
theorem rowV_append {W : World} {g o : Nat} {xs ys : List Value} (h1 : RowV W g o xs) (h2 : RowV W g (o + xs.length) ys) : RowV W g o (xs ++ ys) := fun k u hu => by
  by_cases hk : k < xs.length
  · rw [List.getElem?_append_left hk] at hu
    exact h1 k u hu
  · rw [List.getElem?_append_right (by omega)] at hu
    have := h2 _ u hu
    rwa [show o + xs.length + (k - xs.length) = o + k by omega] at this

section
variable {H : Type} {enc : TypeId × Value → H} {W : World} {base : Nat} {spare : Nat → Bool} {held : Bool}

theorem opened {α : Type} {e : TypeId} {sz n : Nat} (f : α → List Value) (hf : ∀ a, (f a).length = sz) (Q : α → DataW H → Prop)
    (elem : ∀ cs x, cs.length = sz → DataW.trod enc Try.prog W base spare held n e cs = some x → ∃ a, cs = f a ∧ Q a x.1) (b : Nat) :
    ∀ (elems : List (DataW H × List MemPlace)) (off : Nat), (∀ i, i < elems.length → (W.cells? base ⟨b, off + i * sz, none⟩ sz).bind (DataW.trod enc Try.prog W base spare held n e) = elems[i]?) →
      ∃ l : List α, l.length = elems.length ∧ RowV W b off (l.flatMap f) ∧ ∀ a ∈ l, ∃ x ∈ elems, Q a x.1
  | [], off, _ => ⟨[], rfl, fun k u hu => by simp at hu, fun a h => by cases h⟩
  | x :: r, off, h => by
    have h0 := h 0 (by simp)
    rw [List.getElem?_cons_zero, Option.bind_eq_some_iff] at h0
    obtain ⟨cs, hcs, hy⟩ := h0
    obtain ⟨_, hl, hcell⟩ := World.cells?_some hcs
    obtain ⟨a, rfl, hq⟩ := elem cs x hl hy
    obtain ⟨l, hll, hrow, hQ⟩ := opened f hf Q elem b r (off + sz) (fun i hi => by
      have := h (i + 1) (by simp; omega)
      rw [List.getElem?_cons_succ] at this
      rwa [show off + (i + 1) * sz = off + sz + i * sz by rw [Nat.succ_mul]; omega] at this)
    refine ⟨a :: l, by simp [hll], ?_, ?_⟩
    · rw [List.flatMap_cons]
      refine rowV_append (fun k u hu => ?_) (by rw [hf]; exact hrow)
      have hk : k < sz := by have := (List.getElem?_eq_some_iff.1 hu).1; rwa [hf] at this
      have := hcell k hk
      rw [add_plain, hu] at this
      simpa using this
    · intro a' hi
      rcases List.mem_cons.1 hi with rfl | hi
      · exact ⟨x, by simp, hq⟩
      · obtain ⟨y, hy, hq⟩ := hQ a' hi
        exact ⟨y, List.mem_cons_of_mem _ hy, hq⟩


theorem len3 {l : List Value} (h : l.length = 3) : ∃ c0 c1 c2, l = [c0, c1, c2] := by
  match l, h with
  | [c0, c1, c2], _ => exact ⟨c0, c1, c2, rfl⟩
set_option maxRecDepth 100000 in
/-- keys that came in -/
theorem open_keys {v : Value} {x : DataW H} {p : List MemPlace} {r : Reach} {b0 : Nat} (hv : Value.okWide Try.prog W r b0 43 v) (h : DataW.Trod enc Try.prog W base spare held 43 v x p) :
    ∃ (q : Option Addr) (c : Nat) (L : List K), v = .slice q L.length c ∧ Kys W q L := by
  obtain ⟨a0, len, cap, rfl⟩ := okWide_slice Try.underlying43 hv
  obtain ⟨fuel, hf⟩ := h
  rcases DataW.trod_slice Try.underlying43 (show DataW.trod enc Try.prog W base spare held fuel 43 [.slice a0 len cap] = some (x, p) from hf) with ⟨hcs, hx⟩ | ⟨a, len', cap', elems, rest, n, _, hcs, hx, _, hl, hm, hlen, hel, _, _⟩
  · simp only [List.cons.injEq, and_true] at hcs
    exact ⟨none, 0, [], hcs, ⟨.inl rfl, nofun⟩⟩
  · simp only [List.cons.injEq, and_true] at hcs
    cases hcs
    match elems, hlen, hel with
    | [], hlen, _ => subst hlen; exact ⟨_, _, [], rfl, ⟨.inl rfl, nofun⟩⟩
    | y :: r, hlen, hel =>
      subst hlen
      have h0 := hel 0 (by simp)
      rw [cells37, List.getElem?_cons_zero, Option.bind_eq_some_iff] at h0
      obtain ⟨cs, hcs, hy⟩ := h0
      obtain ⟨_, hl5, hcell⟩ := World.cells?_some hcs
      have k0 := hcell 0 (by omega)
      rw [List.getElem?_eq_getElem (by omega)] at k0
      have hs : a.spot = none := by simpa [Addr.add] using World.cell?_spot k0
      obtain ⟨b, off, spot⟩ := a
      simp only at hs
      subst hs
      obtain ⟨L, h1, h2, h3⟩ := opened K.cs (fun _ => rfl) (fun k _ => k.in) (fun cs x hc h => by
        obtain ⟨c0, c1, c2, rfl⟩ := len3 hc
        obtain ⟨n, d, t, hn, hd, ht, rfl, rfl, rfl, _⟩ := elem37 h
        exact ⟨⟨n, d, t⟩, rfl, ⟨hn, hd⟩⟩) b (y :: r) off (fun i hi => by have := hel i hi; rwa [cells37, add_plain] at this)
      exact ⟨some ⟨b, off, none⟩, _, L, by rw [h1], ⟨.inr ⟨b, off, rfl, h2⟩, fun k hk => by obtain ⟨_, _, q⟩ := h3 k hk; exact q⟩⟩
end
end Go.Proofs.Ytmcmldlnmmbbgaa
