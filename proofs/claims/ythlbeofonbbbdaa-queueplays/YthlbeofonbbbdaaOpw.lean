/-
  The laws' arguments, opened: lists of waiters.
-/
import Derived.Test.YthlbeofonbbbdaaOpen
import Derived.Test.YthlbeofonbbbdaaBb
namespace Go.Proofs.Ythlbeofonbbbdaa
open Go.ChangeShapes Go.WideShapes Go.ChangeAt Go.RowKit

theorem add_plain (b off j : Nat) : (⟨b, off, none⟩ : Addr).add j = ⟨b, off + j, none⟩ := by unfold Addr.add; split <;> simp_all
def LiesV (w : World) (a : Option Addr) (xs : List Value) : Prop := xs = [] ∨ ∃ g o, a = some ⟨g, o, none⟩ ∧ RowV w g o xs
theorem weightsAll_mem {H : Type} {e : TypeId} {l : List (DataW H)} {d : DataW H} (h : d ∈ l) : ∀ n ∈ d.weights Try.prog e, n ∈ DataW.weightsAll Try.prog e l := by
  induction l with
  | nil => cases h
  | cons x r ih =>
    intro n hn
    simp only [DataW.weightsAll, List.mem_append]
    rcases List.mem_cons.1 h with rfl | h
    · exact .inl hn
    · exact .inr (ih h n hn)

theorem rowV_append {W : World} {g o : Nat} {xs ys : List Value} (h1 : RowV W g o xs) (h2 : RowV W g (o + xs.length) ys) : RowV W g o (xs ++ ys) := fun k u hu => by
  by_cases hk : k < xs.length
  · rw [List.getElem?_append_left hk] at hu
    exact h1 k u hu
  · rw [List.getElem?_append_right (by omega)] at hu
    have := h2 _ u hu
    rwa [show o + xs.length + (k - xs.length) = o + k by omega] at this



theorem lies_at {α : Type} {f : α → List Value} {sz : Nat} (hf : ∀ a, (f a).length = sz) (hz : 0 < sz) {W : World} {q : Option Addr} {L : List α} (h : LiesV W q (L.flatMap f)) {i : Nat} {o : α} (hi : L[i]? = some o) : ∃ g a, q = some ⟨g, a, none⟩ ∧ ∀ j u, (f o)[j]? = some u → W.cell? ⟨g, a + i * sz + j, none⟩ = some u := by
  rcases h with e | ⟨g, a, rfl, hr⟩
  · have := cs_get hf hi 0 hz
    rw [e, List.getElem?_nil, List.getElem?_eq_getElem (by rw [hf]; exact hz)] at this
    cases this
  · refine ⟨g, a, rfl, fun j u hu => ?_⟩
    have hj : j < sz := by have := (List.getElem?_eq_some_iff.1 hu).1; rwa [hf] at this
    have := hr (i * sz + j) u (by rw [cs_get hf hi j hj]; exact hu)
    rwa [← Nat.add_assoc] at this
section
variable {H : Type} {enc : TypeId × Value → H} {W : World} {base : Nat} {spare : Nat → Bool} {held : Bool}
theorem opened {α : Type} {e : TypeId} {sz n : Nat} (f : α → List Value) (hf : ∀ a, (f a).length = sz) (Q : α → DataW H → Prop)
    (elem : ∀ cs x, DataW.trod enc Try.prog W base spare held n e cs = some x → ∃ a, cs = f a ∧ Q a x.1) (b : Nat) :
    ∀ (elems : List (DataW H × List MemPlace)) (off : Nat), (∀ i, i < elems.length → (W.cells? base ⟨b, off + i * sz, none⟩ sz).bind (DataW.trod enc Try.prog W base spare held n e) = elems[i]?) →
      ∃ l : List α, l.length = elems.length ∧ RowV W b off (l.flatMap f) ∧ ∀ a ∈ l, ∃ x ∈ elems, Q a x.1
  | [], off, _ => ⟨[], rfl, fun k u hu => by simp at hu, fun a h => by cases h⟩
  | x :: r, off, h => by
    have h0 := h 0 (by simp)
    rw [List.getElem?_cons_zero, Option.bind_eq_some_iff] at h0
    obtain ⟨cs, hcs, hy⟩ := h0
    obtain ⟨_, hl, hcell⟩ := World.cells?_some hcs
    obtain ⟨a, rfl, hq⟩ := elem cs x hy
    obtain ⟨l, hll, hrow, hQ⟩ := opened f hf Q elem b r (off + sz) (fun i hi => by
      have := h (i + 1) (by simp; omega)
      rw [List.getElem?_cons_succ] at this
      rwa [show off + (i + 1) * sz = off + sz + i * sz by rw [Nat.succ_mul]; omega] at this)
    refine ⟨a :: l, by simp [hll], ?_, ?_⟩
    · rw [List.flatMap_cons]
      refine rowV_append (fun k u hu => ?_) (by rw [hf]; exact hrow)
      have hk : k < sz := by have := (List.getElem?_eq_some_iff.1 hu).1; rwa [hf] at this
      have := hcell k hk
      rw [add_plain, hu] at this
      simpa using this
    · intro a' hi
      rcases List.mem_cons.1 hi with rfl | hi
      · exact ⟨x, by simp, hq⟩
      · obtain ⟨y, hy, hq⟩ := hQ a' hi
        exact ⟨y, List.mem_cons_of_mem _ hy, hq⟩

theorem slice_row {α : Type} {e : TypeId} {sz n : Nat} (f : α → List Value) (hf : ∀ a, (f a).length = sz) (hc : Try.prog.cellsOf e = sz) (hz : 0 < sz) (Q : α → DataW H → Prop)
    (elem : ∀ cs x, DataW.trod enc Try.prog W base spare held n e cs = some x → ∃ a, cs = f a ∧ Q a x.1) (a : Addr) (elems : List (DataW H × List MemPlace))
    (hel : ∀ i, i < elems.length → (W.cells? base (a.add (i * Try.prog.cellsOf e)) (Try.prog.cellsOf e)).bind (DataW.trod enc Try.prog W base spare held n e) = elems[i]?) :
    ∃ l : List α, l.length = elems.length ∧ LiesV W (some a) (l.flatMap f) ∧ ∀ a ∈ l, ∃ x ∈ elems, Q a x.1 := by
  match elems, hel with
  | [], _ => exact ⟨[], rfl, .inl rfl, fun a h => by cases h⟩
  | x :: r, hel =>
    have h0 := hel 0 (by simp)
    rw [hc, List.getElem?_cons_zero, Option.bind_eq_some_iff] at h0
    obtain ⟨cs, hcs, hy⟩ := h0
    obtain ⟨_, hl, hcell⟩ := World.cells?_some hcs
    have k0 := hcell 0 hz
    rw [List.getElem?_eq_getElem (by omega)] at k0
    have hs : a.spot = none := by simpa [Addr.add] using World.cell?_spot k0
    obtain ⟨b, off, spot⟩ := a
    simp only at hs
    subst hs
    obtain ⟨l, h1, h2, h3⟩ := opened f hf Q elem b (x :: r) off (fun i hi => by have := hel i hi; rwa [hc, add_plain] at this)
    exact ⟨l, h1, .inr ⟨b, off, rfl, h2⟩, h3⟩

theorem open_list {α : Type} {t e : TypeId} {sz fuel : Nat} (ht : Try.prog.underlying t = some (.slice e)) (f : α → List Value) (hf : ∀ a, (f a).length = sz) (hc : Try.prog.cellsOf e = sz) (hz : 0 < sz) (Q : α → DataW H → Prop)
    (elem : ∀ n cs x, DataW.trod enc Try.prog W base spare held n e cs = some x → ∃ a, cs = f a ∧ Q a x.1) {v : Value} {x : DataW H × List MemPlace} (h : DataW.trod enc Try.prog W base spare held fuel t [v] = some x) :
    ∃ (q : Option Addr) (c : Nat) (l : List α), v = .slice q l.length c ∧ LiesV W q (l.flatMap f) ∧ (Wt t x.1 → l.length * Try.prog.bytesOf e ≤ 140737488351232) ∧ (∀ a ∈ l, ∃ d, Q a d ∧ (Wt t x.1 → Wt e d)) ∧ l.length ≤ maxLen := by
  rcases DataW.trod_slice ht h with ⟨hcs, hx⟩ | ⟨a, len', cap', elems, rest, n, _, hcs, hx, _, hl, hm, hlen, hel, _, _⟩
  · simp only [List.cons.injEq, and_true] at hcs
    subst hcs
    exact ⟨none, 0, [], rfl, .inl rfl, fun _ => by simp, (fun a h => by cases h), Nat.zero_le _⟩
  · simp only [List.cons.injEq, and_true] at hcs
    subst hcs hx hlen
    obtain ⟨l, h1, h2, h3⟩ := slice_row f hf hc hz Q (elem n) a elems hel
    refine ⟨some a, cap', l, by rw [h1], h2, fun hw => ?_, fun a' ha => ?_, by omega⟩
    · have := hw ((elems.map (·.1)).length + (rest.map (·.1)).length |> (· * Try.prog.bytesOf e)) (by simp [DataW.weights, ht])
      simp only [List.length_map, reachBytes] at this
      rw [h1]
      exact Nat.le_trans (Nat.mul_le_mul_right _ (Nat.le_add_right _ _)) this
    · obtain ⟨y, hy, hq⟩ := h3 a' ha
      refine ⟨y.1, hq, fun hw m hm => hw m ?_⟩
      have := weightsAll_mem (List.mem_map_of_mem (f := (·.1)) hy) m hm
      simp only [DataW.weights, ht, List.mem_cons, List.mem_append]
      exact .inr (.inl this)

set_option maxRecDepth 100000 in
theorem open_waiters {v : Value} {x : DataW H} {p : List MemPlace} {r : Reach} {b0 : Nat} (hv : Value.okWide Try.prog W r b0 37 v) (h : DataW.Trod enc Try.prog W base spare held 37 v x p) :
    ∃ (q : Option Addr) (c : Nat) (L : List J), v = .slice q L.length c ∧ (Wt 37 x → WArg W q L) ∧ L.length ≤ maxLen := by
  obtain ⟨a0, len, cap, rfl⟩ := okWide_slice Try.underlying37 hv
  obtain ⟨fuel, hf⟩ := h
  obtain ⟨q, c, L, h1, h2, h3, h4, h5⟩ := open_list (x := (x, p)) Try.underlying37 wC wC_len cellsOf32 (by decide) (fun e d => Wt 32 d → e.tn.length ≤ 281474976710656) (fun n cs x h => by
    obtain ⟨o, e, _, _, h3⟩ := elem32 h
    exact ⟨o, e, h3⟩) (show DataW.trod enc Try.prog W base spare held fuel 37 [.slice a0 len cap] = some (x, p) from hf)
  refine ⟨q, c, L, h1, fun hw i e he => ⟨?_, ?_⟩, h5⟩
  · obtain ⟨g, a, rfl, hk⟩ := lies_at (f := wC) (sz := 3) wC_len (by decide) h2 he
    exact ⟨g, a, rfl, hk 0 _ rfl, hk 1 _ rfl, hk 2 _ rfl⟩
  · obtain ⟨d, hd, hq⟩ := h4 e (List.mem_of_getElem? he)
    exact hd (hq hw)
end
end Go.Proofs.Ythlbeofonbbbdaa
