/-
  The laws' arguments, opened: numbers.
-/
import Derived.Test.YtodldfgoieikcaaMc
import Derived.ProofKit
import Derived.OpenShut
import Derived.ShutString
import Derived.SizedLaws
namespace Go.Proofs.Ytodldfgoieikcaa
open Go.ChangeShapes Go.WideShapes Go.ChangeAt Go.RowKit

theorem cellsOf2 : Try.prog.cellsOf 2 = 1 := by kernel_rfl
theorem cellsOf3 : Try.prog.cellsOf 3 = 1 := by kernel_rfl
theorem cellsOf5 : Try.prog.cellsOf 5 = 1 := by kernel_rfl
theorem cellsOf32 : Try.prog.cellsOf 32 = 1 := by kernel_rfl
theorem cellsOf34 : Try.prog.cellsOf 34 = 3 := by kernel_rfl
theorem cellsOf43 : Try.prog.cellsOf 43 = 1 := by kernel_rfl
theorem laidOut : laidOutB Try.prog = true := by kernel_rfl
theorem add_plain (b off j : Nat) : (⟨b, off, none⟩ : Addr).add j = ⟨b, off + j, none⟩ := by unfold Addr.add; split <;> simp_all
def LiesV (w : World) (a : Option Addr) (xs : List Value) : Prop := xs = [] ∨ ∃ g o, a = some ⟨g, o, none⟩ ∧ RowV w g o xs
/-- every list and text within is of a size in reach -/
def Wt {H : Type} (t : TypeId) (d : DataW H) : Prop := ∀ m ∈ d.weights Try.prog t, m ≤ reachBytes
theorem weightsAll_mem {H : Type} {e : TypeId} {l : List (DataW H)} {d : DataW H} (h : d ∈ l) : ∀ n ∈ d.weights Try.prog e, n ∈ DataW.weightsAll Try.prog e l := by
  induction l with
  | nil => cases h
  | cons x r ih =>
    intro n hn
    simp only [DataW.weightsAll, List.mem_append]
    rcases List.mem_cons.1 h with rfl | h
    · exact .inl hn
    · exact .inr (ih h n hn)

theorem rowV_append {W : World} {g o : Nat} {xs ys : List Value} (h1 : RowV W g o xs) (h2 : RowV W g (o + xs.length) ys) : RowV W g o (xs ++ ys) := fun k u hu => by
  by_cases hk : k < xs.length
  · rw [List.getElem?_append_left hk] at hu
    exact h1 k u hu
  · rw [List.getElem?_append_right (by omega)] at hu
    have := h2 _ u hu
    rwa [show o + xs.length + (k - xs.length) = o + k by omega] at this


section
variable {H : Type} {enc : TypeId × Value → H} {W : World} {base : Nat} {spare : Nat → Bool} {held : Bool}
theorem opened {α : Type} {e : TypeId} {sz n : Nat} (f : α → List Value) (hf : ∀ a, (f a).length = sz) (Q : α → DataW H → Prop)
    (elem : ∀ cs x, DataW.trod enc Try.prog W base spare held n e cs = some x → ∃ a, cs = f a ∧ Q a x.1) (b : Nat) :
    ∀ (elems : List (DataW H × List MemPlace)) (off : Nat), (∀ i, i < elems.length → (W.cells? base ⟨b, off + i * sz, none⟩ sz).bind (DataW.trod enc Try.prog W base spare held n e) = elems[i]?) →
      ∃ l : List α, l.length = elems.length ∧ RowV W b off (l.flatMap f) ∧ ∀ a ∈ l, ∃ x ∈ elems, Q a x.1
  | [], off, _ => ⟨[], rfl, fun k u hu => by simp at hu, fun a h => by cases h⟩
  | x :: r, off, h => by
    have h0 := h 0 (by simp)
    rw [List.getElem?_cons_zero, Option.bind_eq_some_iff] at h0
    obtain ⟨cs, hcs, hy⟩ := h0
    obtain ⟨_, hl, hcell⟩ := World.cells?_some hcs
    obtain ⟨a, rfl, hq⟩ := elem cs x hy
    obtain ⟨l, hll, hrow, hQ⟩ := opened f hf Q elem b r (off + sz) (fun i hi => by
      have := h (i + 1) (by simp; omega)
      rw [List.getElem?_cons_succ] at this
      rwa [show off + (i + 1) * sz = off + sz + i * sz by rw [Nat.succ_mul]; omega] at this)
    refine ⟨a :: l, by simp [hll], ?_, ?_⟩
    · rw [List.flatMap_cons]
      refine rowV_append (fun k u hu => ?_) (by rw [hf]; exact hrow)
      have hk : k < sz := by have := (List.getElem?_eq_some_iff.1 hu).1; rwa [hf] at this
      have := hcell k hk
      rw [add_plain, hu] at this
      simpa using this
    · intro a' hi
      rcases List.mem_cons.1 hi with rfl | hi
      · exact ⟨x, by simp, hq⟩
      · obtain ⟨y, hy, hq⟩ := hQ a' hi
        exact ⟨y, List.mem_cons_of_mem _ hy, hq⟩

theorem slice_row {α : Type} {e : TypeId} {sz n : Nat} (f : α → List Value) (hf : ∀ a, (f a).length = sz) (hc : Try.prog.cellsOf e = sz) (hz : 0 < sz) (Q : α → DataW H → Prop)
    (elem : ∀ cs x, DataW.trod enc Try.prog W base spare held n e cs = some x → ∃ a, cs = f a ∧ Q a x.1) (a : Addr) (elems : List (DataW H × List MemPlace))
    (hel : ∀ i, i < elems.length → (W.cells? base (a.add (i * Try.prog.cellsOf e)) (Try.prog.cellsOf e)).bind (DataW.trod enc Try.prog W base spare held n e) = elems[i]?) :
    ∃ l : List α, l.length = elems.length ∧ LiesV W (some a) (l.flatMap f) ∧ ∀ a ∈ l, ∃ x ∈ elems, Q a x.1 := by
  match elems, hel with
  | [], _ => exact ⟨[], rfl, .inl rfl, fun a h => by cases h⟩
  | x :: r, hel =>
    have h0 := hel 0 (by simp)
    rw [hc, List.getElem?_cons_zero, Option.bind_eq_some_iff] at h0
    obtain ⟨cs, hcs, hy⟩ := h0
    obtain ⟨_, hl, hcell⟩ := World.cells?_some hcs
    have k0 := hcell 0 hz
    rw [List.getElem?_eq_getElem (by omega)] at k0
    have hs : a.spot = none := by simpa [Addr.add] using World.cell?_spot k0
    obtain ⟨b, off, spot⟩ := a
    simp only at hs
    subst hs
    obtain ⟨l, h1, h2, h3⟩ := opened f hf Q elem b (x :: r) off (fun i hi => by have := hel i hi; rwa [hc, add_plain] at this)
    exact ⟨l, h1, .inr ⟨b, off, rfl, h2⟩, h3⟩

theorem open_list {α : Type} {t e : TypeId} {sz fuel : Nat} (ht : Try.prog.underlying t = some (.slice e)) (f : α → List Value) (hf : ∀ a, (f a).length = sz) (hc : Try.prog.cellsOf e = sz) (hz : 0 < sz) (Q : α → DataW H → Prop)
    (elem : ∀ n cs x, DataW.trod enc Try.prog W base spare held n e cs = some x → ∃ a, cs = f a ∧ Q a x.1) {v : Value} {x : DataW H × List MemPlace} (h : DataW.trod enc Try.prog W base spare held fuel t [v] = some x) :
    ∃ (q : Option Addr) (c : Nat) (l : List α), v = .slice q l.length c ∧ (q = none → c = 0) ∧ LiesV W q (l.flatMap f) ∧ (Wt t x.1 → l.length * Try.prog.bytesOf e ≤ 140737488351232) ∧ (∀ a ∈ l, ∃ d, Q a d ∧ (Wt t x.1 → Wt e d)) ∧ l.length ≤ maxLen := by
  rcases DataW.trod_slice ht h with ⟨hcs, hx⟩ | ⟨a, len', cap', elems, rest, n, _, hcs, hx, _, hl, hm, hlen, hel, _, _⟩
  · simp only [List.cons.injEq, and_true] at hcs
    subst hcs
    exact ⟨none, 0, [], rfl, fun _ => rfl, .inl rfl, fun _ => by simp, (fun a h => by cases h), Nat.zero_le _⟩
  · simp only [List.cons.injEq, and_true] at hcs
    subst hcs hx hlen
    obtain ⟨l, h1, h2, h3⟩ := slice_row f hf hc hz Q (elem n) a elems hel
    refine ⟨some a, cap', l, by rw [h1], (fun e => by cases e), h2, fun hw => ?_, fun a' ha => ?_, by omega⟩
    · have := hw ((elems.map (·.1)).length + (rest.map (·.1)).length |> (· * Try.prog.bytesOf e)) (by simp [DataW.weights, ht])
      simp only [List.length_map, reachBytes] at this
      rw [h1]
      exact Nat.le_trans (Nat.mul_le_mul_right _ (Nat.le_add_right _ _)) this
    · obtain ⟨y, hy, hq⟩ := h3 a' ha
      refine ⟨y.1, hq, fun hw m hm => hw m ?_⟩
      have := weightsAll_mem (List.mem_map_of_mem (f := (·.1)) hy) m hm
      simp only [DataW.weights, ht, List.mem_cons, List.mem_append]
      exact .inr (.inl this)

theorem elemI {fuel : Nat} {cs : List Value} {x : DataW H × List MemPlace} (h : DataW.trod enc Try.prog W base spare held fuel 2 cs = some x) : ∃ n : Int, cs = [.int .i64 n] ∧ True := by
  obtain ⟨n, e, _, _⟩ := DataW.trod_int Try.underlying2 h
  exact ⟨n, e, trivial⟩
theorem ints_flat (l : List Int) : l.flatMap (fun n => [Value.int .i64 n]) = ints l := by
  unfold ints
  induction l with
  | nil => rfl
  | cons a r ih => rw [List.flatMap_cons, ih]; rfl
theorem lies_ai {q : Option Addr} {l : List Int} (h : LiesV W q (ints l)) : AI W q l := fun k x hx => by
  rcases h with e | ⟨g, o, rfl, hr⟩
  · have : l = [] := by cases l with
      | nil => rfl
      | cons a r => simp [ints] at e
    subst this
    simp at hx
  · exact ⟨g, o, rfl, hr k _ (ints_at hx)⟩
theorem open_ints {v : Value} {x : DataW H × List MemPlace} {fuel : Nat} (h : DataW.trod enc Try.prog W base spare held fuel 32 [v] = some x) :
    ∃ (q : Option Addr) (c : Nat) (L : List Int), v = .slice q L.length c ∧ (q = none → c = 0) ∧ AI W q L ∧ L.length ≤ maxLen := by
  obtain ⟨q, c, L, h1, h2, h3, _, _, h6⟩ := open_list Try.underlying32 (fun n : Int => [Value.int .i64 n]) (fun _ => rfl) cellsOf2 (by decide) (fun _ _ => True) (fun n cs x h => elemI h) h
  rw [ints_flat] at h3
  exact ⟨q, c, L, h1, h2, lies_ai h3, h6⟩
end
end Go.Proofs.Ytodldfgoieikcaa
