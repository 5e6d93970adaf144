/-
  A script that came in.
-/
import Derived.Test.YtplcpjngpkghmaaOpp
import Derived.Test.YtplcpjngpkghmaaKu
namespace Go.Proofs.Ytplcpjngpkghmaa
open Go.ChangeShapes Go.WideShapes Go.ChangeAt Go.RowKit

theorem cellsOf33 : Try.prog.cellsOf 33 = 3 := by kernel_rfl
theorem bytesOf33 : 1 ≤ Try.prog.bytesOf 33 := by decide +kernel
section
variable {H : Type} {enc : TypeId × Value → H} {W : World} {base : Nat} {spare : Nat → Bool} {held : Bool}
theorem len3 {l : List Value} (h : l.length = 3) : ∃ c0 c1 c2, l = [c0, c1, c2] := by
  match l, h with
  | [c0, c1, c2], _ => exact ⟨c0, c1, c2, rfl⟩
def OpQ (W : World) (o : OPj) (d : DataW H) : Prop := (Lies W o.r.a o.r.b ∧ (o.r.a = none → o.r.c = 0) ∧ o.r.b.length ≤ o.r.c) ∧ (Wt 33 d → o.r.b.length ≤ 140737488355328)
set_option maxRecDepth 100000 in
theorem elem33 {fuel : Nat} {cs : List Value} {x : DataW H × List MemPlace} (hc : cs.length = 3) (h : DataW.trod enc Try.prog W base spare held fuel 33 cs = some x) : ∃ o : OPj, cs = o.cs ∧ OpQ W o x.1 := by
  obtain ⟨c0, c1, c2, rfl⟩ := len3 hc
  obtain ⟨xs, m, _, rfl, hcl, hlen, hget⟩ := DataW.trod_struct Try.underlying33 h
  have g0 : DataW.trod enc Try.prog W base spare held m 3 (List.take (Try.prog.cellsOf 3) (List.drop 0 [c0, c1, c2])) = xs[0]? := hget 0 _ rfl
  have g1 : DataW.trod enc Try.prog W base spare held m 3 (List.take (Try.prog.cellsOf 3) (List.drop 1 [c0, c1, c2])) = xs[1]? := hget 1 _ rfl
  have g3 : DataW.trod enc Try.prog W base spare held m 31 (List.take (Try.prog.cellsOf 31) (List.drop 2 [c0, c1, c2])) = xs[2]? := hget 2 _ rfl
  match xs, hlen with
  | [x0, x1, x3], _ =>
    simp only [cellsOf3, cellsOf31, List.drop_zero, List.drop_succ_cons, List.take_succ_cons, List.take_zero, List.getElem?_cons_zero, List.getElem?_cons_succ] at g0 g1 g3
    obtain ⟨n0, e0, _, _⟩ := DataW.trod_int Try.underlying3 g0
    obtain ⟨n1, e1, _, w1⟩ := DataW.trod_int Try.underlying3 g1
    obtain ⟨q3, k3, l3, rfl, h3, z3, y3, b3⟩ := elem30w g3
    simp only [List.cons.injEq, and_true] at e0 e1
    subst e0 e1
    refine ⟨⟨n0, n1, ⟨l3, q3, k3⟩⟩, rfl, ⟨h3, z3, y3⟩, fun hb => ?_⟩
    have u3 : Wt 31 x3.1 := Wt.field (j := 2) hb Try.underlying33 rfl rfl
    exact b3 u3
set_option maxRecDepth 100000 in
/-- a script -/
theorem open_script {v : Value} {x : DataW H} {p : List MemPlace} {r : Reach} {b0 : Nat} (hv : Value.okWide Try.prog W r b0 22 v) (h : DataW.Trod enc Try.prog W base spare held 22 v x p) (hw : Wt 22 x) :
    ∃ (q : Option Addr) (c : Nat) (L : List OPj), v = .slice q L.length c ∧ L.length ≤ 140737488355328 ∧ Scr W q L := by
  obtain ⟨a0, len, cap, rfl⟩ := okWide_slice Try.underlying22 hv
  obtain ⟨fuel, hf⟩ := h
  rcases DataW.trod_slice Try.underlying22 (show DataW.trod enc Try.prog W base spare held fuel 22 [.slice a0 len cap] = some (x, p) from hf) with ⟨hcs, hx⟩ | ⟨a, len', cap', elems, rest, n, _, hcs, hx, _, hl, hm, hlen, hel, _, _⟩
  · simp only [List.cons.injEq, and_true] at hcs
    exact ⟨none, 0, [], hcs, by simp, ⟨.inl rfl, nofun⟩⟩
  · simp only [List.cons.injEq, and_true] at hcs
    cases hcs
    simp only [Prod.mk.injEq] at hx
    obtain ⟨rfl, -⟩ := hx
    match elems, hlen, hel with
    | [], hlen, _ => subst hlen; exact ⟨_, _, [], rfl, by simp, ⟨.inl rfl, nofun⟩⟩
    | y :: r, hlen, hel =>
      subst hlen
      have h0 := hel 0 (by simp)
      rw [cellsOf33, List.getElem?_cons_zero, Option.bind_eq_some_iff] at h0
      obtain ⟨cs, hcs, hy⟩ := h0
      obtain ⟨_, hl5, hcell⟩ := World.cells?_some hcs
      have k0 := hcell 0 (by omega)
      rw [List.getElem?_eq_getElem (by omega)] at k0
      have hs : a.spot = none := by simpa [Addr.add] using World.cell?_spot k0
      obtain ⟨b, off, spot⟩ := a
      simp only at hs
      subst hs
      obtain ⟨L, h1, h2, h3⟩ := opened OPj.cs (fun _ => rfl) (OpQ W) (fun cs x hc h => elem33 hc h) b (y :: r) off (fun i hi => by have := hel i hi; rwa [cellsOf33, add_plain] at this)
      have hq : ∀ o ∈ L, ∃ d, OpQ (H := H) W o d ∧ Wt 33 d := fun o ho => by
        obtain ⟨z, hz, hq⟩ := h3 o ho
        refine ⟨z.1, hq, fun m hm => hw m ?_⟩
        have := weightsAll_mem (List.mem_map_of_mem (f := (·.1)) hz) m hm
        simp only [DataW.weights, Try.underlying22, List.mem_cons, List.mem_append]
        exact .inr (.inl this)
      refine ⟨some ⟨b, off, none⟩, _, L, by rw [h1], ?_, ⟨.inr ⟨b, off, rfl, h2⟩, fun o ho => ?_⟩⟩
      · have := hw (((y :: r).map (·.1)).length + (rest.map (·.1)).length |> (· * Try.prog.bytesOf 33)) (by simp [DataW.weights, Try.underlying22])
        simp only [List.length_map] at this
        have e := reach_le
        have e2 := Nat.le_mul_of_pos_right ((y :: r).length + rest.length) bytesOf33
        rw [h1]
        omega
      · obtain ⟨d, q1, q2⟩ := hq o ho
        exact ⟨q1.1.1, q1.1.2.1, q1.1.2.2, q1.2 q2⟩
end
end Go.Proofs.Ytplcpjngpkghmaa
