/-
  The laws' arguments, opened: runs, what is asked.
-/
import Derived.Test.YtjgibngnjlciaaaOpen
import Derived.Test.YtjgibngnjlciaaaFm
namespace Go.Proofs.Ytjgibngnjlciaaa
open Go.ChangeShapes Go.WideShapes Go.ChangeAt Go.RowKit

theorem cellsOf44 : Try.prog.cellsOf 44 = 4 := by kernel_rfl
theorem cellsOf22 : Try.prog.cellsOf 22 = 1 := by kernel_rfl
theorem cellsOf29 : Try.prog.cellsOf 29 = 1 := by kernel_rfl
theorem cellsOf24 : Try.prog.cellsOf 24 = 4 := by kernel_rfl
theorem in64_wf {n : Int} (h : (Lit.int .i64 n).wf = true) : in64 n := by
  simp [Lit.wf, IntKind.min, IntKind.max, IntKind.bits, IntKind.signed] at h
  omega
theorem okWide_str {P : Program} {w : World} {r : Reach} {b : Nat} {v : Value} {fs : Array Field} {t : TypeId} (ht : P.underlying t = some (.struct fs)) (h : Value.okWide P w r b t v) : ∃ cs, v = .agg cs ∧ cs.size = P.cellsOf t := by
  simp only [Value.okWide, ht] at h
  obtain ⟨cs, h1, h2, _⟩ := h
  exact ⟨cs, h1, h2⟩
section
variable {H : Type} {enc : TypeId × Value → H} {W : World} {base : Nat} {spare : Nat → Bool} {held : Bool}
set_option maxRecDepth 100000 in
theorem elem44 {fuel : Nat} {cs : List Value} {x : DataW H × List MemPlace} (h : DataW.trod enc Try.prog W base spare held fuel 44 cs = some x) : ∃ e : Vi, cs = viC e ∧ (Wt 44 x.1 → e.pre W) ∧ e.in6 := by
  obtain ⟨xs, m, _, hx, hl, hlen, hget⟩ := DataW.trod_struct Try.underlying44 h
  rw [cellsOf44] at hl
  match cs, hl with
  | [c0, c1, c3, c4], _ =>
  have g0 : DataW.trod enc Try.prog W base spare held m 2 (List.take (Try.prog.cellsOf 2) (List.drop 0 [c0, c1, c3, c4])) = xs[0]? := hget 0 _ rfl
  have g1 : DataW.trod enc Try.prog W base spare held m 2 (List.take (Try.prog.cellsOf 2) (List.drop 1 [c0, c1, c3, c4])) = xs[1]? := hget 1 _ rfl
  have g3 : DataW.trod enc Try.prog W base spare held m 22 (List.take (Try.prog.cellsOf 22) (List.drop 2 [c0, c1, c3, c4])) = xs[2]? := hget 2 _ rfl
  have g4 : DataW.trod enc Try.prog W base spare held m 29 (List.take (Try.prog.cellsOf 29) (List.drop 3 [c0, c1, c3, c4])) = xs[3]? := hget 3 _ rfl
  match xs, hlen with
  | [x0, x1, x3, x4], _ =>
    simp only [cellsOf2, cellsOf22, cellsOf29, List.drop_zero, List.drop_succ_cons, List.take_succ_cons, List.take_zero, List.getElem?_cons_zero, List.getElem?_cons_succ] at g0 g1 g3 g4
    obtain ⟨n0, e0, _, w0⟩ := DataW.trod_int Try.underlying2 g0
    obtain ⟨n1, e1, _, w1⟩ := DataW.trod_int Try.underlying2 g1
    simp only [List.cons.injEq, and_true] at e0 e1
    subst e0 e1
    obtain ⟨q3, k3, T, rfl, t2, t3, t4, t5, t6⟩ := open_list (x := x3) Try.underlying22 vC vC_len cellsOf41 (by decide) (fun _ _ => True) (fun n cs x h => elemV h) g3
    obtain ⟨q4, k4, N, rfl, s2, s3, s4, s5, s6⟩ := open_list (x := x4) Try.underlying29 sC sC_len cellsOf9 (by decide) (fun e d => Wt 9 d → e.length ≤ 281474976710656) (fun n cs x h => elem9 h) g4
    refine ⟨⟨n0, n1, q3, T.length, k3, q4, N.length, k4, T, N⟩, rfl, fun hw => ?_, in64_wf w0, in64_wf w1⟩
    rw [hx] at hw
    have hw4 : Wt 29 x4.1 := Wt.field (j := 3) hw Try.underlying44 rfl rfl
    refine ⟨⟨in64_wf w0, in64_wf w1⟩, lies_ga vC_len (by decide) t2, t6, rfl, lies_ga sC_len (by decide) s2, s6, rfl, fun s hs => ?_⟩
    obtain ⟨d, hd, hq⟩ := s4 s hs
    exact hd (hq hw4)
set_option maxRecDepth 100000 in
theorem open_runs {v : Value} {x : DataW H} {p : List MemPlace} {r : Reach} {b0 : Nat} (hv : Value.okWide Try.prog W r b0 25 v) (h : DataW.Trod enc Try.prog W base spare held 25 v x p) :
    ∃ (q : Option Addr) (c : Nat) (L : List Vi), v = .slice q L.length c ∧ VA W q L ∧ (Wt 25 x → ∀ e ∈ L, e.pre W) ∧ VIn L ∧ L.length ≤ maxLen ∧ (q = none → c = 0) := by
  obtain ⟨a0, len, cap, rfl⟩ := okWide_slice Try.underlying25 hv
  obtain ⟨fuel, hf⟩ := h
  obtain ⟨q, c, L, h1, h2, h3, h4, h5, h6⟩ := open_list (x := (x, p)) Try.underlying25 viC viC_len cellsOf44 (by decide) (fun e d => (Wt 44 d → e.pre W) ∧ e.in6) (fun n cs x h => elem44 h) (show DataW.trod enc Try.prog W base spare held fuel 25 [.slice a0 len cap] = some (x, p) from hf)
  refine ⟨q, c, L, h1, lies_ga viC_len (by decide) h2, fun hw e he => ?_, fun e he => ?_, h5, h6⟩
  · obtain ⟨d, hd, hq⟩ := h4 e he
    exact hd.1 (hq hw)
  · obtain ⟨d, hd, hq⟩ := h4 e he
    exact hd.2
set_option maxRecDepth 100000 in
theorem open_asked {v : Value} {x : DataW H} {p : List MemPlace} {r : Reach} {b0 : Nat} (hv : Value.okWide Try.prog W r b0 24 v) (h : DataW.Trod enc Try.prog W base spare held 24 v x p) :
    ∃ (now rt : Int) (q : Option Addr) (c : Nat) (T : List V) (q2 : Option Addr) (c2 : Nat) (U : List V), v = xA now rt q T.length c q2 U.length c2 ∧ in64 now ∧ in64 rt ∧ TA W q T ∧ (q = none → c = 0) ∧ TA W q2 U ∧ (q2 = none → c2 = 0) := by
  obtain ⟨cs, rfl, hsz⟩ := okWide_str Try.underlying24 hv
  obtain ⟨l⟩ := cs
  have hl : l.length = 4 := hsz.trans cellsOf24
  match l, hl with
  | [c0, c1, c3, c4], _ =>
    obtain ⟨fuel, hf⟩ := h
    obtain ⟨xs, m, _, hx, hl, hlen, hget⟩ := DataW.trod_struct Try.underlying24 hf
    have g0 : DataW.trod enc Try.prog W base spare held m 2 (List.take (Try.prog.cellsOf 2) (List.drop 0 [c0, c1, c3, c4])) = xs[0]? := hget 0 _ rfl
    have g1 : DataW.trod enc Try.prog W base spare held m 2 (List.take (Try.prog.cellsOf 2) (List.drop 1 [c0, c1, c3, c4])) = xs[1]? := hget 1 _ rfl
    have g3 : DataW.trod enc Try.prog W base spare held m 22 (List.take (Try.prog.cellsOf 22) (List.drop 2 [c0, c1, c3, c4])) = xs[2]? := hget 2 _ rfl
    have g4 : DataW.trod enc Try.prog W base spare held m 22 (List.take (Try.prog.cellsOf 22) (List.drop 3 [c0, c1, c3, c4])) = xs[3]? := hget 3 _ rfl
    match xs, hlen with
    | [x0, x1, x3, x4], _ =>
      simp only [cellsOf2, cellsOf22, List.drop_zero, List.drop_succ_cons, List.take_succ_cons, List.take_zero, List.getElem?_cons_zero, List.getElem?_cons_succ] at g0 g1 g3 g4
      obtain ⟨n0, e0, _, w0⟩ := DataW.trod_int Try.underlying2 g0
      obtain ⟨n1, e1, _, w1⟩ := DataW.trod_int Try.underlying2 g1
      simp only [List.cons.injEq, and_true] at e0 e1
      subst e0 e1
      obtain ⟨q3, k3, T, rfl, t2, t3, t4, t5, t6⟩ := open_list (x := x3) Try.underlying22 vC vC_len cellsOf41 (by decide) (fun _ _ => True) (fun n cs x h => elemV h) g3
      obtain ⟨q4, k4, U, rfl, s2, s3, s4, s5, s6⟩ := open_list (x := x4) Try.underlying22 vC vC_len cellsOf41 (by decide) (fun _ _ => True) (fun n cs x h => elemV h) g4
      exact ⟨n0, n1, q3, k3, T, q4, k4, U, rfl, in64_wf w0, in64_wf w1, lies_ga vC_len (by decide) t2, t6, lies_ga vC_len (by decide) s2, s6⟩
end
end Go.Proofs.Ytjgibngnjlciaaa
