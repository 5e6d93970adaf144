/-
  The laws' argument, opened: a record as plain data, with its list of names.
-/
import Derived.Test.YtnkkiepoljbhlaaOpen
namespace Go.Proofs.Ytnkkiepoljbhlaa
open Go.ChangeShapes Go.WideShapes Go.ChangeAt Go.RowKit
section
variable {H : Type} {enc : TypeId × Value → H} {W : World} {base : Nat} {spare : Nat → Bool} {held : Bool}
set_option linter.unusedSimpArgs false in
set_option maxRecDepth 100000 in
set_option maxHeartbeats 1000000 in
theorem open_plain2 {r : Reach} {b0 : Nat} {v : Value} {x : DataW H} {p : List MemPlace} (hv : Value.okWide Try.prog W r b0 32 v) (h : DataW.Trod enc Try.prog W base spare held 32 v x p) :
    ∃ (q : PL) (L : JL) (N : List ByteArray), v = .agg q.cells ∧ q.jb.has W L ∧ (Wt 32 x → Fits q.jb L) ∧ SLh W q.ns N.length (textsV N) ∧ (Wt 32 x → (∀ t ∈ N, t.size ≤ 281474976710656) ∧ q.tn.size ≤ 281474976710656 ∧ q.nd.size ≤ 281474976710656) := by
  obtain ⟨cs, rfl, hsz⟩ := okWide_struct Try.underlying32 hv
  obtain ⟨c0, c1, c2, c3, c4, c5, c6, c7, c8, c9, c10, c11, c12, c13, c14, c15, c16, c17, c18, c19, c20, c21, c22, c23, c24, c25, c26, rfl⟩ := arr27 (hsz.trans cellsOf32)
  obtain ⟨fuel, hf⟩ := h
  obtain ⟨xs, m, _, hx, hcl, hlen, hget⟩ := DataW.trod_struct Try.underlying32 hf
  have g0 : DataW.trod enc Try.prog W base spare held m 3 (List.take (Try.prog.cellsOf 3) (List.drop 0 [c0, c1, c2, c3, c4, c5, c6, c7, c8, c9, c10, c11, c12, c13, c14, c15, c16, c17, c18, c19, c20, c21, c22, c23, c24, c25, c26])) = xs[0]? := hget 0 _ rfl
  have g1 : DataW.trod enc Try.prog W base spare held m 25 (List.take (Try.prog.cellsOf 25) (List.drop 1 [c0, c1, c2, c3, c4, c5, c6, c7, c8, c9, c10, c11, c12, c13, c14, c15, c16, c17, c18, c19, c20, c21, c22, c23, c24, c25, c26])) = xs[1]? := hget 1 _ rfl
  have g2 : DataW.trod enc Try.prog W base spare held m 9 (List.take (Try.prog.cellsOf 9) (List.drop 7 [c0, c1, c2, c3, c4, c5, c6, c7, c8, c9, c10, c11, c12, c13, c14, c15, c16, c17, c18, c19, c20, c21, c22, c23, c24, c25, c26])) = xs[2]? := hget 2 _ rfl
  have g3 : DataW.trod enc Try.prog W base spare held m 2 (List.take (Try.prog.cellsOf 2) (List.drop 8 [c0, c1, c2, c3, c4, c5, c6, c7, c8, c9, c10, c11, c12, c13, c14, c15, c16, c17, c18, c19, c20, c21, c22, c23, c24, c25, c26])) = xs[3]? := hget 3 _ rfl
  have g4 : DataW.trod enc Try.prog W base spare held m 23 (List.take (Try.prog.cellsOf 23) (List.drop 9 [c0, c1, c2, c3, c4, c5, c6, c7, c8, c9, c10, c11, c12, c13, c14, c15, c16, c17, c18, c19, c20, c21, c22, c23, c24, c25, c26])) = xs[4]? := hget 4 _ rfl
  have g5 : DataW.trod enc Try.prog W base spare held m 30 (List.take (Try.prog.cellsOf 30) (List.drop 13 [c0, c1, c2, c3, c4, c5, c6, c7, c8, c9, c10, c11, c12, c13, c14, c15, c16, c17, c18, c19, c20, c21, c22, c23, c24, c25, c26])) = xs[5]? := hget 5 _ rfl
  have g6 : DataW.trod enc Try.prog W base spare held m 2 (List.take (Try.prog.cellsOf 2) (List.drop 24 [c0, c1, c2, c3, c4, c5, c6, c7, c8, c9, c10, c11, c12, c13, c14, c15, c16, c17, c18, c19, c20, c21, c22, c23, c24, c25, c26])) = xs[6]? := hget 6 _ rfl
  have g7 : DataW.trod enc Try.prog W base spare held m 28 (List.take (Try.prog.cellsOf 28) (List.drop 25 [c0, c1, c2, c3, c4, c5, c6, c7, c8, c9, c10, c11, c12, c13, c14, c15, c16, c17, c18, c19, c20, c21, c22, c23, c24, c25, c26])) = xs[7]? := hget 7 _ rfl
  have g8 : DataW.trod enc Try.prog W base spare held m 3 (List.take (Try.prog.cellsOf 3) (List.drop 26 [c0, c1, c2, c3, c4, c5, c6, c7, c8, c9, c10, c11, c12, c13, c14, c15, c16, c17, c18, c19, c20, c21, c22, c23, c24, c25, c26])) = xs[8]? := hget 8 _ rfl
  match xs, hlen with
  | [x0, x1, x2, x3, x4, x5, x6, x7, x8], _ =>
    simp only [cellsOf2, cellsOf3, cellsOf9, cellsOf23, cellsOf25, cellsOf26, cellsOf27, cellsOf28, cellsOf30, List.drop_zero, List.drop_succ_cons, List.take_succ_cons, List.take_zero, List.getElem?_cons_zero, List.getElem?_cons_succ] at  g0 g1 g2 g3 g4 g5 g6 g7 g8
    obtain ⟨n0, e0, _, _⟩ := DataW.trod_int Try.underlying3 g0
    obtain ⟨ys, m1, _, hy1, _, hlen1, hget1⟩ := DataW.trod_struct Try.underlying25 g1
    have k0 : DataW.trod enc Try.prog W base spare held m1 9 (List.take (Try.prog.cellsOf 9) (List.drop 0 [c1, c2, c3, c4, c5, c6])) = ys[0]? := hget1 0 _ rfl
    have k1 : DataW.trod enc Try.prog W base spare held m1 2 (List.take (Try.prog.cellsOf 2) (List.drop 1 [c1, c2, c3, c4, c5, c6])) = ys[1]? := hget1 1 _ rfl
    have k2 : DataW.trod enc Try.prog W base spare held m1 23 (List.take (Try.prog.cellsOf 23) (List.drop 2 [c1, c2, c3, c4, c5, c6])) = ys[2]? := hget1 2 _ rfl
    obtain ⟨n7, e7, q7, _⟩ := DataW.trod_string Try.underlying9 g2
    obtain ⟨n8, e8, _, _⟩ := DataW.trod_int Try.underlying2 g3
    obtain ⟨v9, e9⟩ := elem23 g4
    obtain ⟨j, L, ej, hj, hfit⟩ := open_job g5
    obtain ⟨n24, e24, _, _⟩ := DataW.trod_int Try.underlying2 g6
    obtain ⟨s25, l25, rfl, h25, b25, z25⟩ := open_texts g7
    obtain ⟨n26, e26, _, _⟩ := DataW.trod_int Try.underlying3 g8
    match ys, hlen1 with
    | [y0, y1, y2], _ =>
      simp only [cellsOf2, cellsOf3, cellsOf9, cellsOf23, cellsOf25, cellsOf26, cellsOf27, cellsOf28, cellsOf30, List.drop_zero, List.drop_succ_cons, List.take_succ_cons, List.take_zero, List.getElem?_cons_zero, List.getElem?_cons_succ] at  k0 k1 k2
      obtain ⟨n1, e1, q1, _⟩ := DataW.trod_string Try.underlying9 k0
      obtain ⟨n2, e2, _, _⟩ := DataW.trod_int Try.underlying2 k1
      obtain ⟨v3, e3⟩ := elem23 k2
      simp only [List.cons.injEq, and_true] at e0 e1 e2 e3 e7 e8 e9 e24 e26
      obtain ⟨a3, a4, a5, a6⟩ := e3
      obtain ⟨a9, a10, a11, a12⟩ := e9
      simp only [JB.cells, Array.mk.injEq, List.cons.injEq, and_true] at ej
      obtain ⟨j0, j1, j2, j3, j4, j5, j6, j7, j8, j9, j10⟩ := ej
      subst e0 e1 e2 a3 a4 a5 a6 e7 e8 a9 a10 a11 a12 j0 j1 j2 j3 j4 j5 j6 j7 j8 j9 j10 e24 e26
      simp only [Prod.mk.injEq] at hx
      refine ⟨⟨n0, n1, n2, v3.a, v3.b, v3.c, v3.d, n7, n8, v9.a, v9.b, v9.c, v9.d, j, n24, s25, n26⟩, L, l25, rfl, hj, fun hb => hfit ?_, h25, fun hb => ?_⟩
      · rw [hx.1] at hb
        exact Wt.field (j := 5) hb Try.underlying32 rfl rfl
      · rw [hx.1] at hb
        have u7 : Wt 28 x7.1 := Wt.field (j := 7) hb Try.underlying32 rfl rfl
        have u2 : Wt 9 x2.1 := Wt.field (j := 2) hb Try.underlying32 rfl rfl
        have u1 : Wt 25 x1.1 := Wt.field (j := 1) hb Try.underlying32 rfl rfl
        rw [hy1] at u1
        have v1 : Wt 9 y0.1 := Wt.field (j := 0) u1 Try.underlying25 rfl rfl
        rw [q7] at u2
        rw [q1] at v1
        have t2 := Wt.text u2
        have t1 := Wt.text v1
        exact ⟨z25 u7, by show n1.size ≤ _; omega, by show n7.size ≤ _; omega⟩
end
end Go.Proofs.Ytnkkiepoljbhlaa
