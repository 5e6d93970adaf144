/-
  The laws' arguments, opened: pieces, scripts.
-/
import Derived.Test.YtoiopplhphllhaaOpen
import Derived.Test.YtoiopplhphllhaaSt
namespace Go.Proofs.Ytoiopplhphllhaa
open Go.ChangeShapes Go.WideShapes Go.ChangeAt Go.RowKit

theorem cellsOf3 : Try.prog.cellsOf 3 = 1 := by kernel_rfl
theorem cellsOf2 : Try.prog.cellsOf 2 = 1 := by kernel_rfl
theorem cellsOf27 : Try.prog.cellsOf 27 = 1 := by kernel_rfl
theorem cellsOf30 : Try.prog.cellsOf 30 = 1 := by kernel_rfl
theorem bytesOf30 : 1 ≤ Try.prog.bytesOf 30 := by decide +kernel
theorem cellsOf32 : Try.prog.cellsOf 32 = 4 := by kernel_rfl
theorem bytesOf32 : 1 ≤ Try.prog.bytesOf 32 := by decide +kernel
/-- every list and text within is of a size in reach -/
def Wt {H : Type} (t : TypeId) (d : DataW H) : Prop := ∀ m ∈ d.weights Try.prog t, m ≤ reachBytes
theorem weightsAll_mem {H : Type} {e : TypeId} {l : List (DataW H)} {d : DataW H} (h : d ∈ l) : ∀ n ∈ d.weights Try.prog e, n ∈ DataW.weightsAll Try.prog e l := by
  induction l with
  | nil => cases h
  | cons x r ih =>
    intro n hn
    simp only [DataW.weightsAll, List.mem_append]
    rcases List.mem_cons.1 h with rfl | h
    · exact .inl hn
    · exact .inr (ih h n hn)
theorem Wt.field {H : Type} {t u : TypeId} {fs : Array Field} {parts : List (DataW H)} {j : Nat} {d : DataW H} (h : Wt t (.agg parts)) (ht : Try.prog.underlying t = some (.struct fs)) (hf : (fs.toList.map (·.type))[j]? = some u) (hd : parts[j]? = some d) : Wt u d := fun m hm =>
  h m (by simp only [DataW.weights, ht]; exact DataW.weights_mem_each hf hd m hm)
theorem rowV_append {W : World} {g o : Nat} {xs ys : List Value} (h1 : RowV W g o xs) (h2 : RowV W g (o + xs.length) ys) : RowV W g o (xs ++ ys) := fun k u hu => by
  by_cases hk : k < xs.length
  · rw [List.getElem?_append_left hk] at hu
    exact h1 k u hu
  · rw [List.getElem?_append_right (by omega)] at hu
    have := h2 _ u hu
    rwa [show o + xs.length + (k - xs.length) = o + k by omega] at this

section
variable {H : Type} {enc : TypeId × Value → H} {W : World} {base : Nat} {spare : Nat → Bool} {held : Bool}

theorem opened {α : Type} {e : TypeId} {sz n : Nat} (f : α → List Value) (hf : ∀ a, (f a).length = sz) (Q : α → DataW H → Prop)
    (elem : ∀ cs x, cs.length = sz → DataW.trod enc Try.prog W base spare held n e cs = some x → ∃ a, cs = f a ∧ Q a x.1) (b : Nat) :
    ∀ (elems : List (DataW H × List MemPlace)) (off : Nat), (∀ i, i < elems.length → (W.cells? base ⟨b, off + i * sz, none⟩ sz).bind (DataW.trod enc Try.prog W base spare held n e) = elems[i]?) →
      ∃ l : List α, l.length = elems.length ∧ RowV W b off (l.flatMap f) ∧ ∀ a ∈ l, ∃ x ∈ elems, Q a x.1
  | [], off, _ => ⟨[], rfl, fun k u hu => by simp at hu, fun a h => by cases h⟩
  | x :: r, off, h => by
    have h0 := h 0 (by simp)
    rw [List.getElem?_cons_zero, Option.bind_eq_some_iff] at h0
    obtain ⟨cs, hcs, hy⟩ := h0
    obtain ⟨_, hl, hcell⟩ := World.cells?_some hcs
    obtain ⟨a, rfl, hq⟩ := elem cs x hl hy
    obtain ⟨l, hll, hrow, hQ⟩ := opened f hf Q elem b r (off + sz) (fun i hi => by
      have := h (i + 1) (by simp; omega)
      rw [List.getElem?_cons_succ] at this
      rwa [show off + (i + 1) * sz = off + sz + i * sz by rw [Nat.succ_mul]; omega] at this)
    refine ⟨a :: l, by simp [hll], ?_, ?_⟩
    · rw [List.flatMap_cons]
      refine rowV_append (fun k u hu => ?_) (by rw [hf]; exact hrow)
      have hk : k < sz := by have := (List.getElem?_eq_some_iff.1 hu).1; rwa [hf] at this
      have := hcell k hk
      rw [add_plain, hu] at this
      simpa using this
    · intro a' hi
      rcases List.mem_cons.1 hi with rfl | hi
      · exact ⟨x, by simp, hq⟩
      · obtain ⟨y, hy, hq⟩ := hQ a' hi
        exact ⟨y, List.mem_cons_of_mem _ hy, hq⟩

theorem reach_le : reachBytes ≤ 140737488355328 := by decide +kernel
theorem elem30w {fuel : Nat} {c0 : Value} {x : DataW H × List MemPlace} (h : DataW.trod enc Try.prog W base spare held fuel 30 [c0] = some x) :
    ∃ (q : Option Addr) (c : Nat) (l : List UInt8), c0 = .slice q l.length c ∧ Lies W q l ∧ (q = none → c = 0) ∧ l.length ≤ c ∧ (Wt 30 x.1 → l.length ≤ 140737488355328) := by
  rcases DataW.trod_slice Try.underlying30 h with ⟨hcs, hx⟩ | ⟨a, len', cap', elems, rest, n, _, hcs, hx, _, hl, hm, hlen, hel, _, _⟩
  · simp only [List.cons.injEq, and_true] at hcs
    exact ⟨none, 0, [], hcs, .inl rfl, fun _ => rfl, Nat.le_refl _, fun _ => by simp⟩
  · simp only [List.cons.injEq, and_true] at hcs
    obtain ⟨l, hll, hlies⟩ := opened_bytes hlen hel
    subst hll
    refine ⟨some a, cap', l, hcs, hlies, (fun e => by cases e), hl, fun hw => ?_⟩
    subst hx
    have := hw ((elems.map (·.1)).length + (rest.map (·.1)).length |> (· * Try.prog.bytesOf 5)) (by simp [DataW.weights, Try.underlying30])
    simp only [List.length_map, bytesOf5] at this
    have e := reach_le
    omega
def PcQ (W : World) (r : RC) (d : DataW H) : Prop := (Lies W r.a r.b ∧ (r.a = none → r.c = 0)) ∧ (Wt 30 d → r.b.length ≤ 140737488355328)
theorem one1' {l : List Value} (h : l.length = 1) : ∃ c0, l = [c0] := by
  match l, h with
  | [c0], _ => exact ⟨c0, rfl⟩
theorem flat1 (l : List RC) : l.flatMap (fun r => [r.v]) = l.map RC.v := by
  induction l with
  | nil => rfl
  | cons v l ih => rw [List.flatMap_cons, ih]; rfl
set_option maxRecDepth 100000 in
theorem elem27w {fuel : Nat} {c0 : Value} {x : DataW H × List MemPlace} (h : DataW.trod enc Try.prog W base spare held fuel 27 [c0] = some x) :
    ∃ (q : Option Addr) (c : Nat) (l : List RC), c0 = .slice q l.length c ∧ Pcs W q l ∧ (Wt 27 x.1 → l.length ≤ 140737488355328 ∧ ∀ r ∈ l, r.b.length ≤ 140737488355328) := by
  rcases DataW.trod_slice Try.underlying27 h with ⟨hcs, hx⟩ | ⟨a, len', cap', elems, rest, n, _, hcs, hx, _, hl, hm, hlen, hel, _, _⟩
  · simp only [List.cons.injEq, and_true] at hcs
    exact ⟨none, 0, [], hcs, ⟨.inl rfl, nofun⟩, fun _ => ⟨by simp, nofun⟩⟩
  · simp only [List.cons.injEq, and_true] at hcs
    subst hx
    match elems, hlen, hel with
    | [], hlen, _ => subst hlen; exact ⟨some a, cap', [], hcs, ⟨.inl rfl, nofun⟩, fun _ => ⟨by simp, nofun⟩⟩
    | y :: r, hlen, hel =>
      subst hlen
      have h0 := hel 0 (by simp)
      rw [cellsOf30, List.getElem?_cons_zero, Option.bind_eq_some_iff] at h0
      obtain ⟨cs, hcs2, hy⟩ := h0
      obtain ⟨_, hl5, hcell⟩ := World.cells?_some hcs2
      have k0 := hcell 0 (by omega)
      rw [List.getElem?_eq_getElem (by omega)] at k0
      have hs : a.spot = none := by simpa [Addr.add] using World.cell?_spot k0
      obtain ⟨b, off, spot⟩ := a
      simp only at hs
      subst hs
      obtain ⟨L, h1, h2, h3⟩ := opened (fun r : RC => [r.v]) (fun _ => rfl) (PcQ W) (fun cs x hc h => by
        obtain ⟨c0, rfl⟩ := one1' hc
        obtain ⟨q, c, l, rfl, g1, g2, g3, g4⟩ := elem30w h
        exact ⟨⟨l, q, c⟩, rfl, ⟨g1, g2⟩, g4⟩) b (y :: r) off (fun i hi => by have := hel i hi; rwa [cellsOf30, add_plain] at this)
      rw [flat1] at h2
      refine ⟨some ⟨b, off, none⟩, cap', L, by rw [h1]; exact hcs, ⟨.inr ⟨b, off, rfl, h2⟩, fun p hp => ?_⟩, fun hw => ⟨?_, fun p hp => ?_⟩⟩
      · obtain ⟨z, hz, hq⟩ := h3 p hp
        exact hq.1
      · have := hw (((y :: r).map (·.1)).length + (rest.map (·.1)).length |> (· * Try.prog.bytesOf 30)) (by simp [DataW.weights, Try.underlying27])
        simp only [List.length_map] at this
        have e := reach_le
        have e2 := Nat.le_mul_of_pos_right ((y :: r).length + rest.length) bytesOf30
        rw [h1]
        omega
      · obtain ⟨z, hz, hq⟩ := h3 p hp
        refine hq.2 fun m hm => hw m ?_
        have := weightsAll_mem (List.mem_map_of_mem (f := (·.1)) hz) m hm
        simp only [DataW.weights, Try.underlying27, List.mem_cons, List.mem_append]
        exact .inr (.inl this)
set_option maxRecDepth 100000 in
/-- pieces that came in -/
theorem open_pieces {v : Value} {x : DataW H} {p : List MemPlace} {r : Reach} {b0 : Nat} (hv : Value.okWide Try.prog W r b0 27 v) (h : DataW.Trod enc Try.prog W base spare held 27 v x p) (hw : Wt 27 x) :
    ∃ (q : Option Addr) (c : Nat) (l : List RC), v = .slice q l.length c ∧ Pcs W q l ∧ l.length ≤ 140737488355328 ∧ ∀ r ∈ l, r.b.length ≤ 140737488355328 := by
  obtain ⟨a0, len, cap, rfl⟩ := okWide_slice Try.underlying27 hv
  obtain ⟨fuel, hf⟩ := h
  obtain ⟨q, c, l, e, h1, h2⟩ := elem27w (show DataW.trod enc Try.prog W base spare held fuel 27 [.slice a0 len cap] = some (x, p) from hf)
  exact ⟨q, c, l, e, h1, h2 hw⟩
set_option maxRecDepth 100000 in
/-- bytes that came in -/
theorem open_byteW {v : Value} {x : DataW H} {p : List MemPlace} {r : Reach} {b0 : Nat} (hv : Value.okWide Try.prog W r b0 30 v) (h : DataW.Trod enc Try.prog W base spare held 30 v x p) (hw : Wt 30 x) :
    ∃ (q : Option Addr) (c : Nat) (l : List UInt8), v = .slice q l.length c ∧ Lies W q l ∧ (q = none → c = 0) ∧ l.length ≤ c ∧ l.length ≤ 140737488355328 := by
  obtain ⟨a0, len, cap, rfl⟩ := okWide_slice Try.underlying30 hv
  obtain ⟨fuel, hf⟩ := h
  obtain ⟨q, c, l, e, h1, h2, h3, h4⟩ := elem30w (show DataW.trod enc Try.prog W base spare held fuel 30 [.slice a0 len cap] = some (x, p) from hf)
  exact ⟨q, c, l, e, h1, h2, h3, h4 hw⟩
theorem len4 {l : List Value} (h : l.length = 4) : ∃ c0 c1 c2 c3, l = [c0, c1, c2, c3] := by
  match l, h with
  | [c0, c1, c2, c3], _ => exact ⟨c0, c1, c2, c3, rfl⟩
def OpQ (W : World) (o : OPc) (d : DataW H) : Prop := (Pcs W o.q o.l ∧ Lies W o.a o.ch ∧ (o.a = none → o.d = 0) ∧ o.ch.length ≤ o.d) ∧ (Wt 32 d → o.l.length ≤ 140737488355328 ∧ o.ch.length ≤ 140737488355328 ∧ ∀ r ∈ o.l, r.b.length ≤ 140737488355328)
set_option maxRecDepth 100000 in
theorem elem32 {fuel : Nat} {cs : List Value} {x : DataW H × List MemPlace} (hc : cs.length = 4) (h : DataW.trod enc Try.prog W base spare held fuel 32 cs = some x) : ∃ o : OPc, cs = o.cs ∧ OpQ W o x.1 := by
  obtain ⟨c0, c1, c2, c3, rfl⟩ := len4 hc
  obtain ⟨xs, m, _, rfl, hcl, hlen, hget⟩ := DataW.trod_struct Try.underlying32 h
  have g0 : DataW.trod enc Try.prog W base spare held m 3 (List.take (Try.prog.cellsOf 3) (List.drop 0 [c0, c1, c2, c3])) = xs[0]? := hget 0 _ rfl
  have g1 : DataW.trod enc Try.prog W base spare held m 2 (List.take (Try.prog.cellsOf 2) (List.drop 1 [c0, c1, c2, c3])) = xs[1]? := hget 1 _ rfl
  have g2 : DataW.trod enc Try.prog W base spare held m 27 (List.take (Try.prog.cellsOf 27) (List.drop 2 [c0, c1, c2, c3])) = xs[2]? := hget 2 _ rfl
  have g3 : DataW.trod enc Try.prog W base spare held m 30 (List.take (Try.prog.cellsOf 30) (List.drop 3 [c0, c1, c2, c3])) = xs[3]? := hget 3 _ rfl
  match xs, hlen with
  | [x0, x1, x2, x3], _ =>
    simp only [cellsOf3, cellsOf2, cellsOf27, cellsOf30, List.drop_zero, List.drop_succ_cons, List.take_succ_cons, List.take_zero, List.getElem?_cons_zero, List.getElem?_cons_succ] at g0 g1 g2 g3
    obtain ⟨n0, e0, _, _⟩ := DataW.trod_int Try.underlying3 g0
    obtain ⟨n1, e1, _, w1⟩ := DataW.trod_int Try.underlying2 g1
    obtain ⟨q2, k2, l2, rfl, h2, b2⟩ := elem27w g2
    obtain ⟨q3, k3, l3, rfl, h3, z3, y3, b3⟩ := elem30w g3
    simp only [List.cons.injEq, and_true] at e0 e1
    subst e0 e1
    refine ⟨⟨n0, n1, q2, k2, l2, q3, k3, l3⟩, rfl, ⟨h2, h3, z3, y3⟩, fun hb => ?_⟩
    have u2 : Wt 27 x2.1 := Wt.field (j := 2) hb Try.underlying32 rfl rfl
    have u3 : Wt 30 x3.1 := Wt.field (j := 3) hb Try.underlying32 rfl rfl
    exact ⟨(b2 u2).1, b3 u3, (b2 u2).2⟩
set_option maxRecDepth 100000 in
/-- a script -/
theorem open_script {v : Value} {x : DataW H} {p : List MemPlace} {r : Reach} {b0 : Nat} (hv : Value.okWide Try.prog W r b0 22 v) (h : DataW.Trod enc Try.prog W base spare held 22 v x p) (hw : Wt 22 x) :
    ∃ (q : Option Addr) (c : Nat) (L : List OPc), v = .slice q L.length c ∧ L.length ≤ 140737488355328 ∧ Scr W q L := by
  obtain ⟨a0, len, cap, rfl⟩ := okWide_slice Try.underlying22 hv
  obtain ⟨fuel, hf⟩ := h
  rcases DataW.trod_slice Try.underlying22 (show DataW.trod enc Try.prog W base spare held fuel 22 [.slice a0 len cap] = some (x, p) from hf) with ⟨hcs, hx⟩ | ⟨a, len', cap', elems, rest, n, _, hcs, hx, _, hl, hm, hlen, hel, _, _⟩
  · simp only [List.cons.injEq, and_true] at hcs
    exact ⟨none, 0, [], hcs, by simp, ⟨.inl rfl, nofun⟩⟩
  · simp only [List.cons.injEq, and_true] at hcs
    cases hcs
    simp only [Prod.mk.injEq] at hx
    obtain ⟨rfl, -⟩ := hx
    match elems, hlen, hel with
    | [], hlen, _ => subst hlen; exact ⟨_, _, [], rfl, by simp, ⟨.inl rfl, nofun⟩⟩
    | y :: r, hlen, hel =>
      subst hlen
      have h0 := hel 0 (by simp)
      rw [cellsOf32, List.getElem?_cons_zero, Option.bind_eq_some_iff] at h0
      obtain ⟨cs, hcs, hy⟩ := h0
      obtain ⟨_, hl5, hcell⟩ := World.cells?_some hcs
      have k0 := hcell 0 (by omega)
      rw [List.getElem?_eq_getElem (by omega)] at k0
      have hs : a.spot = none := by simpa [Addr.add] using World.cell?_spot k0
      obtain ⟨b, off, spot⟩ := a
      simp only at hs
      subst hs
      obtain ⟨L, h1, h2, h3⟩ := opened OPc.cs (fun _ => rfl) (OpQ W) (fun cs x hc h => elem32 hc h) b (y :: r) off (fun i hi => by have := hel i hi; rwa [cellsOf32, add_plain] at this)
      have hq : ∀ o ∈ L, ∃ d, OpQ (H := H) W o d ∧ Wt 32 d := fun o ho => by
        obtain ⟨z, hz, hq⟩ := h3 o ho
        refine ⟨z.1, hq, fun m hm => hw m ?_⟩
        have := weightsAll_mem (List.mem_map_of_mem (f := (·.1)) hz) m hm
        simp only [DataW.weights, Try.underlying22, List.mem_cons, List.mem_append]
        exact .inr (.inl this)
      refine ⟨some ⟨b, off, none⟩, _, L, by rw [h1], ?_, ⟨.inr ⟨b, off, rfl, h2⟩, fun o ho => ?_⟩⟩
      · have := hw (((y :: r).map (·.1)).length + (rest.map (·.1)).length |> (· * Try.prog.bytesOf 32)) (by simp [DataW.weights, Try.underlying22])
        simp only [List.length_map] at this
        have e := reach_le
        have e2 := Nat.le_mul_of_pos_right ((y :: r).length + rest.length) bytesOf32
        rw [h1]
        omega
      · obtain ⟨d, q1, q2⟩ := hq o ho
        obtain ⟨z1, z2, z3⟩ := q1.2 q2
        exact ⟨q1.1.1, q1.1.2.1, q1.1.2.2.1, q1.1.2.2.2, z1, z2, z3⟩
end
end Go.Proofs.Ytoiopplhphllhaa
