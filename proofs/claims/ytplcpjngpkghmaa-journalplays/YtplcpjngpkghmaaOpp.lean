/-
  The laws' arguments, opened: lists of bytes' lists.
-/
import Derived.Test.YtplcpjngpkghmaaOpen
import Derived.Test.YtplcpjngpkghmaaJv
namespace Go.Proofs.Ytplcpjngpkghmaa
open Go.ChangeShapes Go.WideShapes Go.ChangeAt Go.RowKit

theorem cellsOf3 : Try.prog.cellsOf 3 = 1 := by kernel_rfl
theorem cellsOf2 : Try.prog.cellsOf 2 = 1 := by kernel_rfl
theorem cellsOf38 : Try.prog.cellsOf 38 = 1 := by kernel_rfl
theorem cellsOf31 : Try.prog.cellsOf 31 = 1 := by kernel_rfl
theorem bytesOf31 : 1 ≤ Try.prog.bytesOf 31 := by decide +kernel
/-- every list and text within is of a size in reach -/
def Wt {H : Type} (t : TypeId) (d : DataW H) : Prop := ∀ m ∈ d.weights Try.prog t, m ≤ reachBytes
theorem weightsAll_mem {H : Type} {e : TypeId} {l : List (DataW H)} {d : DataW H} (h : d ∈ l) : ∀ n ∈ d.weights Try.prog e, n ∈ DataW.weightsAll Try.prog e l := by
  induction l with
  | nil => cases h
  | cons x r ih =>
    intro n hn
    simp only [DataW.weightsAll, List.mem_append]
    rcases List.mem_cons.1 h with rfl | h
    · exact .inl hn
    · exact .inr (ih h n hn)
theorem Wt.field {H : Type} {t u : TypeId} {fs : Array Field} {parts : List (DataW H)} {j : Nat} {d : DataW H} (h : Wt t (.agg parts)) (ht : Try.prog.underlying t = some (.struct fs)) (hf : (fs.toList.map (·.type))[j]? = some u) (hd : parts[j]? = some d) : Wt u d := fun m hm =>
  h m (by simp only [DataW.weights, ht]; exact DataW.weights_mem_each hf hd m hm)
theorem rowV_append {W : World} {g o : Nat} {xs ys : List Value} (h1 : RowV W g o xs) (h2 : RowV W g (o + xs.length) ys) : RowV W g o (xs ++ ys) := fun k u hu => by
  by_cases hk : k < xs.length
  · rw [List.getElem?_append_left hk] at hu
    exact h1 k u hu
  · rw [List.getElem?_append_right (by omega)] at hu
    have := h2 _ u hu
    rwa [show o + xs.length + (k - xs.length) = o + k by omega] at this

section
variable {H : Type} {enc : TypeId × Value → H} {W : World} {base : Nat} {spare : Nat → Bool} {held : Bool}

theorem opened {α : Type} {e : TypeId} {sz n : Nat} (f : α → List Value) (hf : ∀ a, (f a).length = sz) (Q : α → DataW H → Prop)
    (elem : ∀ cs x, cs.length = sz → DataW.trod enc Try.prog W base spare held n e cs = some x → ∃ a, cs = f a ∧ Q a x.1) (b : Nat) :
    ∀ (elems : List (DataW H × List MemPlace)) (off : Nat), (∀ i, i < elems.length → (W.cells? base ⟨b, off + i * sz, none⟩ sz).bind (DataW.trod enc Try.prog W base spare held n e) = elems[i]?) →
      ∃ l : List α, l.length = elems.length ∧ RowV W b off (l.flatMap f) ∧ ∀ a ∈ l, ∃ x ∈ elems, Q a x.1
  | [], off, _ => ⟨[], rfl, fun k u hu => by simp at hu, fun a h => by cases h⟩
  | x :: r, off, h => by
    have h0 := h 0 (by simp)
    rw [List.getElem?_cons_zero, Option.bind_eq_some_iff] at h0
    obtain ⟨cs, hcs, hy⟩ := h0
    obtain ⟨_, hl, hcell⟩ := World.cells?_some hcs
    obtain ⟨a, rfl, hq⟩ := elem cs x hl hy
    obtain ⟨l, hll, hrow, hQ⟩ := opened f hf Q elem b r (off + sz) (fun i hi => by
      have := h (i + 1) (by simp; omega)
      rw [List.getElem?_cons_succ] at this
      rwa [show off + (i + 1) * sz = off + sz + i * sz by rw [Nat.succ_mul]; omega] at this)
    refine ⟨a :: l, by simp [hll], ?_, ?_⟩
    · rw [List.flatMap_cons]
      refine rowV_append (fun k u hu => ?_) (by rw [hf]; exact hrow)
      have hk : k < sz := by have := (List.getElem?_eq_some_iff.1 hu).1; rwa [hf] at this
      have := hcell k hk
      rw [add_plain, hu] at this
      simpa using this
    · intro a' hi
      rcases List.mem_cons.1 hi with rfl | hi
      · exact ⟨x, by simp, hq⟩
      · obtain ⟨y, hy, hq⟩ := hQ a' hi
        exact ⟨y, List.mem_cons_of_mem _ hy, hq⟩

theorem reach_le : reachBytes ≤ 140737488355328 := by decide +kernel
theorem elem30w {fuel : Nat} {c0 : Value} {x : DataW H × List MemPlace} (h : DataW.trod enc Try.prog W base spare held fuel 31 [c0] = some x) :
    ∃ (q : Option Addr) (c : Nat) (l : List UInt8), c0 = .slice q l.length c ∧ Lies W q l ∧ (q = none → c = 0) ∧ l.length ≤ c ∧ (Wt 31 x.1 → l.length ≤ 140737488355328) := by
  rcases DataW.trod_slice Try.underlying31 h with ⟨hcs, hx⟩ | ⟨a, len', cap', elems, rest, n, _, hcs, hx, _, hl, hm, hlen, hel, _, _⟩
  · simp only [List.cons.injEq, and_true] at hcs
    exact ⟨none, 0, [], hcs, .inl rfl, fun _ => rfl, Nat.le_refl _, fun _ => by simp⟩
  · simp only [List.cons.injEq, and_true] at hcs
    obtain ⟨l, hll, hlies⟩ := opened_bytes hlen hel
    subst hll
    refine ⟨some a, cap', l, hcs, hlies, (fun e => by cases e), hl, fun hw => ?_⟩
    subst hx
    have := hw ((elems.map (·.1)).length + (rest.map (·.1)).length |> (· * Try.prog.bytesOf 5)) (by simp [DataW.weights, Try.underlying31])
    simp only [List.length_map, bytesOf5] at this
    have e := reach_le
    omega
def PcQ (W : World) (r : RC) (d : DataW H) : Prop := (Lies W r.a r.b ∧ (r.a = none → r.c = 0)) ∧ (Wt 31 d → r.b.length ≤ 140737488355328)
theorem one1' {l : List Value} (h : l.length = 1) : ∃ c0, l = [c0] := by
  match l, h with
  | [c0], _ => exact ⟨c0, rfl⟩
theorem flat1 (l : List RC) : l.flatMap (fun r => [r.v]) = l.map RC.v := by
  induction l with
  | nil => rfl
  | cons v l ih => rw [List.flatMap_cons, ih]; rfl
set_option maxRecDepth 100000 in
theorem elem27w {fuel : Nat} {c0 : Value} {x : DataW H × List MemPlace} (h : DataW.trod enc Try.prog W base spare held fuel 38 [c0] = some x) :
    ∃ (q : Option Addr) (c : Nat) (l : List RC), c0 = .slice q l.length c ∧ Pcs W q l ∧ (Wt 38 x.1 → l.length ≤ 140737488355328 ∧ ∀ r ∈ l, r.b.length ≤ 140737488355328) := by
  rcases DataW.trod_slice Try.underlying38 h with ⟨hcs, hx⟩ | ⟨a, len', cap', elems, rest, n, _, hcs, hx, _, hl, hm, hlen, hel, _, _⟩
  · simp only [List.cons.injEq, and_true] at hcs
    exact ⟨none, 0, [], hcs, ⟨.inl rfl, nofun⟩, fun _ => ⟨by simp, nofun⟩⟩
  · simp only [List.cons.injEq, and_true] at hcs
    subst hx
    match elems, hlen, hel with
    | [], hlen, _ => subst hlen; exact ⟨some a, cap', [], hcs, ⟨.inl rfl, nofun⟩, fun _ => ⟨by simp, nofun⟩⟩
    | y :: r, hlen, hel =>
      subst hlen
      have h0 := hel 0 (by simp)
      rw [cellsOf31, List.getElem?_cons_zero, Option.bind_eq_some_iff] at h0
      obtain ⟨cs, hcs2, hy⟩ := h0
      obtain ⟨_, hl5, hcell⟩ := World.cells?_some hcs2
      have k0 := hcell 0 (by omega)
      rw [List.getElem?_eq_getElem (by omega)] at k0
      have hs : a.spot = none := by simpa [Addr.add] using World.cell?_spot k0
      obtain ⟨b, off, spot⟩ := a
      simp only at hs
      subst hs
      obtain ⟨L, h1, h2, h3⟩ := opened (fun r : RC => [r.v]) (fun _ => rfl) (PcQ W) (fun cs x hc h => by
        obtain ⟨c0, rfl⟩ := one1' hc
        obtain ⟨q, c, l, rfl, g1, g2, g3, g4⟩ := elem30w h
        exact ⟨⟨l, q, c⟩, rfl, ⟨g1, g2⟩, g4⟩) b (y :: r) off (fun i hi => by have := hel i hi; rwa [cellsOf31, add_plain] at this)
      rw [flat1] at h2
      refine ⟨some ⟨b, off, none⟩, cap', L, by rw [h1]; exact hcs, ⟨.inr ⟨b, off, rfl, h2⟩, fun p hp => ?_⟩, fun hw => ⟨?_, fun p hp => ?_⟩⟩
      · obtain ⟨z, hz, hq⟩ := h3 p hp
        exact hq.1
      · have := hw (((y :: r).map (·.1)).length + (rest.map (·.1)).length |> (· * Try.prog.bytesOf 31)) (by simp [DataW.weights, Try.underlying38])
        simp only [List.length_map] at this
        have e := reach_le
        have e2 := Nat.le_mul_of_pos_right ((y :: r).length + rest.length) bytesOf31
        rw [h1]
        omega
      · obtain ⟨z, hz, hq⟩ := h3 p hp
        refine hq.2 fun m hm => hw m ?_
        have := weightsAll_mem (List.mem_map_of_mem (f := (·.1)) hz) m hm
        simp only [DataW.weights, Try.underlying38, List.mem_cons, List.mem_append]
        exact .inr (.inl this)
set_option maxRecDepth 100000 in
/-- pieces that came in -/
theorem open_pieces {v : Value} {x : DataW H} {p : List MemPlace} {r : Reach} {b0 : Nat} (hv : Value.okWide Try.prog W r b0 38 v) (h : DataW.Trod enc Try.prog W base spare held 38 v x p) (hw : Wt 38 x) :
    ∃ (q : Option Addr) (c : Nat) (l : List RC), v = .slice q l.length c ∧ Pcs W q l ∧ l.length ≤ 140737488355328 ∧ ∀ r ∈ l, r.b.length ≤ 140737488355328 := by
  obtain ⟨a0, len, cap, rfl⟩ := okWide_slice Try.underlying38 hv
  obtain ⟨fuel, hf⟩ := h
  obtain ⟨q, c, l, e, h1, h2⟩ := elem27w (show DataW.trod enc Try.prog W base spare held fuel 38 [.slice a0 len cap] = some (x, p) from hf)
  exact ⟨q, c, l, e, h1, h2 hw⟩
set_option maxRecDepth 100000 in
/-- bytes that came in -/
theorem open_byteW {v : Value} {x : DataW H} {p : List MemPlace} {r : Reach} {b0 : Nat} (hv : Value.okWide Try.prog W r b0 31 v) (h : DataW.Trod enc Try.prog W base spare held 31 v x p) (hw : Wt 31 x) :
    ∃ (q : Option Addr) (c : Nat) (l : List UInt8), v = .slice q l.length c ∧ Lies W q l ∧ (q = none → c = 0) ∧ l.length ≤ c ∧ l.length ≤ 140737488355328 := by
  obtain ⟨a0, len, cap, rfl⟩ := okWide_slice Try.underlying31 hv
  obtain ⟨fuel, hf⟩ := h
  obtain ⟨q, c, l, e, h1, h2, h3, h4⟩ := elem30w (show DataW.trod enc Try.prog W base spare held fuel 31 [.slice a0 len cap] = some (x, p) from hf)
  exact ⟨q, c, l, e, h1, h2, h3, h4 hw⟩
end
end Go.Proofs.Ytplcpjngpkghmaa
