/-
  The laws' arguments, opened and shut: a vector, three vectors.
-/
import Derived.Test.YtcndmhanabgamaaRows
import Derived.ProofKit
import Derived.OpenShut
namespace Go.Proofs.Ytcndmhanabgamaa
open Go.ChangeShapes Go.WideShapes Go.ChangeAt Go.RowKit

theorem cellsOf2 : Try.prog.cellsOf 2 = 1 := by kernel_rfl
theorem cellsOf23 : Try.prog.cellsOf 23 = 4 := by kernel_rfl
theorem cellsOf44 : Try.prog.cellsOf 44 = 12 := by kernel_rfl

section
variable {H : Type} {enc : TypeId × Value → H} {W : World} {base : Nat} {spare : Nat → Bool} {held : Bool}

/-- a number of the kind int64 -/
abbrev I64 (n : Int) : Prop := (Lit.int .i64 n).wf = true

theorem elem23 {fuel : Nat} {c0 c1 c2 c3 : Value} {x : DataW H × List MemPlace} (h : DataW.trod enc Try.prog W base spare held fuel 23 [c0, c1, c2, c3] = some x) :
    ∃ a b c d : Int, (I64 a ∧ I64 b ∧ I64 c ∧ I64 d) ∧ (c0 = .int .i64 a ∧ c1 = .int .i64 b ∧ c2 = .int .i64 c ∧ c3 = .int .i64 d) ∧ x = (.agg [.lit (.int .i64 a), .lit (.int .i64 b), .lit (.int .i64 c), .lit (.int .i64 d)], []) := by
  obtain ⟨xs, m, _, hx, _, hlen, hget⟩ := DataW.trod_array Try.underlying23 h
  have g0 := hget 0 (by omega)
  have g1 := hget 1 (by omega)
  have g2 := hget 2 (by omega)
  have g3 := hget 3 (by omega)
  match xs, hlen with
  | [x0, x1, x2, x3], _ =>
    simp only [cellsOf2, Nat.zero_mul, Nat.one_mul, Nat.reduceMul, List.drop_zero, List.drop_succ_cons, List.take_succ_cons, List.take_zero, List.getElem?_cons_zero, List.getElem?_cons_succ] at g0 g1 g2 g3
    obtain ⟨n0, e0, r0, w0⟩ := DataW.trod_int Try.underlying2 g0
    obtain ⟨n1, e1, r1, w1⟩ := DataW.trod_int Try.underlying2 g1
    obtain ⟨n2, e2, r2, w2⟩ := DataW.trod_int Try.underlying2 g2
    obtain ⟨n3, e3, r3, w3⟩ := DataW.trod_int Try.underlying2 g3
    simp only [List.cons.injEq, and_true] at e0 e1 e2 e3
    subst r0 r1 r2 r3
    exact ⟨n0, n1, n2, n3, ⟨w0, w1, w2, w3⟩, ⟨e0, e1, e2, e3⟩, hx⟩

theorem mk23 (m : Nat) {a b c d : Int} (hb : I64 a ∧ I64 b ∧ I64 c ∧ I64 d) :
    DataW.trod enc Try.prog W base spare held (m + 2) 23 [.int .i64 a, .int .i64 b, .int .i64 c, .int .i64 d] = some (.agg [.lit (.int .i64 a), .lit (.int .i64 b), .lit (.int .i64 c), .lit (.int .i64 d)], []) := by
  obtain ⟨h0, h1, h2, h3⟩ := hb
  have m0 := trod_int_mk (enc := enc) (P := Try.prog) (w := W) (base := base) (spare := spare) (held := held) m Try.underlying2 h0
  have m1 := trod_int_mk (enc := enc) (P := Try.prog) (w := W) (base := base) (spare := spare) (held := held) m Try.underlying2 h1
  have m2 := trod_int_mk (enc := enc) (P := Try.prog) (w := W) (base := base) (spare := spare) (held := held) m Try.underlying2 h2
  have m3 := trod_int_mk (enc := enc) (P := Try.prog) (w := W) (base := base) (spare := spare) (held := held) m Try.underlying2 h3
  unfold DataW.trod
  rw [Try.underlying23]
  simp [cellsOf23, cellsOf2, List.range, List.range.loop, m0, m1, m2, m3]

theorem okWide_arr {n : Nat} {e t : TypeId} {P : Program} {w : World} {r : Reach} {b : Nat} {v : Value} (ht : P.underlying t = some (.array n e)) (h : Value.okWide P w r b t v) : ∃ cs, v = .agg cs ∧ cs.size = P.cellsOf t := by
  simp only [Value.okWide, ht] at h
  obtain ⟨cs, h1, h2, _⟩ := h
  exact ⟨cs, h1, h2⟩
theorem arr4 {α : Type} {cs : Array α} (h : cs.size = 4) : ∃ c0 c1 c2 c3, cs = #[c0, c1, c2, c3] := by
  obtain ⟨l⟩ := cs
  match l, h with
  | [c0, c1, c2, c3], _ => exact ⟨c0, c1, c2, c3, rfl⟩
theorem arr12 {α : Type} {cs : Array α} (h : cs.size = 12) : ∃ c0 c1 c2 c3 c4 c5 c6 c7 c8 c9 c10 c11, cs = #[c0, c1, c2, c3, c4, c5, c6, c7, c8, c9, c10, c11] := by
  obtain ⟨l⟩ := cs
  match l, h with
  | [c0, c1, c2, c3, c4, c5, c6, c7, c8, c9, c10, c11], _ => exact ⟨c0, c1, c2, c3, c4, c5, c6, c7, c8, c9, c10, c11, rfl⟩

theorem open_vec {r : Reach} {b0 : Nat} {v : Value} {x : DataW H} {p : List MemPlace} (hv : Value.okWide Try.prog W r b0 23 v) (h : DataW.Trod enc Try.prog W base spare held 23 v x p) :
    ∃ a b c d : Int, (I64 a ∧ I64 b ∧ I64 c ∧ I64 d) ∧ v = .agg #[.int .i64 a, .int .i64 b, .int .i64 c, .int .i64 d] ∧ x = .agg [.lit (.int .i64 a), .lit (.int .i64 b), .lit (.int .i64 c), .lit (.int .i64 d)] ∧ p = [] := by
  obtain ⟨cs, rfl, hsz⟩ := okWide_arr Try.underlying23 hv
  obtain ⟨c0, c1, c2, c3, rfl⟩ := arr4 (hsz.trans cellsOf23)
  obtain ⟨fuel, hf⟩ := h
  obtain ⟨a, b, c, d, hw, ⟨rfl, rfl, rfl, rfl⟩, hx⟩ := elem23 (c0 := c0) (c1 := c1) (c2 := c2) (c3 := c3) hf
  simp only [Prod.mk.injEq] at hx
  exact ⟨a, b, c, d, hw, rfl, hx.1, hx.2⟩

theorem shut_vec {a b c d : Int} (hb : I64 a ∧ I64 b ∧ I64 c ∧ I64 d) :
    DataW.Trod enc Try.prog W base spare held 23 (.agg #[.int .i64 a, .int .i64 b, .int .i64 c, .int .i64 d]) (.agg [.lit (.int .i64 a), .lit (.int .i64 b), .lit (.int .i64 c), .lit (.int .i64 d)]) [] := ⟨2, mk23 0 hb⟩

theorem open_vecs {r : Reach} {b0 : Nat} {v : Value} {x : DataW H} {p : List MemPlace} (hv : Value.okWide Try.prog W r b0 44 v) (h : DataW.Trod enc Try.prog W base spare held 44 v x p) :
    ∃ a b c d e f g h i j k l : Int, ((I64 a ∧ I64 b ∧ I64 c ∧ I64 d) ∧ (I64 e ∧ I64 f ∧ I64 g ∧ I64 h) ∧ (I64 i ∧ I64 j ∧ I64 k ∧ I64 l)) ∧ v = .agg #[.int .i64 a, .int .i64 b, .int .i64 c, .int .i64 d, .int .i64 e, .int .i64 f, .int .i64 g, .int .i64 h, .int .i64 i, .int .i64 j, .int .i64 k, .int .i64 l] ∧
      x = .agg [.agg [.lit (.int .i64 a), .lit (.int .i64 b), .lit (.int .i64 c), .lit (.int .i64 d)], .agg [.lit (.int .i64 e), .lit (.int .i64 f), .lit (.int .i64 g), .lit (.int .i64 h)], .agg [.lit (.int .i64 i), .lit (.int .i64 j), .lit (.int .i64 k), .lit (.int .i64 l)]] ∧ p = [] := by
  obtain ⟨cs, rfl, hsz⟩ := okWide_arr Try.underlying44 hv
  obtain ⟨c0, c1, c2, c3, c4, c5, c6, c7, c8, c9, c10, c11, rfl⟩ := arr12 (hsz.trans cellsOf44)
  obtain ⟨fuel, hf⟩ := h
  obtain ⟨xs, m, _, hx, _, hlen, hget⟩ := DataW.trod_array Try.underlying44 hf
  have g0 := hget 0 (by omega)
  have g1 := hget 1 (by omega)
  have g2 := hget 2 (by omega)
  match xs, hlen with
  | [x0, x1, x2], _ =>
    simp only [cellsOf23, Value.cells, Nat.zero_mul, Nat.one_mul, Nat.reduceMul, List.drop_zero, List.drop_succ_cons, List.take_succ_cons, List.take_zero, List.getElem?_cons_zero, List.getElem?_cons_succ] at g0 g1 g2
    obtain ⟨a, b, c, d, w0, ⟨rfl, rfl, rfl, rfl⟩, r0⟩ := elem23 g0
    obtain ⟨e, f, g, h, w1, ⟨rfl, rfl, rfl, rfl⟩, r1⟩ := elem23 g1
    obtain ⟨i, j, k, l, w2, ⟨rfl, rfl, rfl, rfl⟩, r2⟩ := elem23 g2
    subst r0 r1 r2
    simp only [Prod.mk.injEq] at hx
    exact ⟨a, b, c, d, e, f, g, h, i, j, k, l, ⟨w0, w1, w2⟩, rfl, hx.1, hx.2⟩

theorem shut_vecs {a b c d e f g h i j k l : Int} (hb : (I64 a ∧ I64 b ∧ I64 c ∧ I64 d) ∧ (I64 e ∧ I64 f ∧ I64 g ∧ I64 h) ∧ (I64 i ∧ I64 j ∧ I64 k ∧ I64 l)) :
    DataW.Trod enc Try.prog W base spare held 44 (.agg #[.int .i64 a, .int .i64 b, .int .i64 c, .int .i64 d, .int .i64 e, .int .i64 f, .int .i64 g, .int .i64 h, .int .i64 i, .int .i64 j, .int .i64 k, .int .i64 l])
      (.agg [.agg [.lit (.int .i64 a), .lit (.int .i64 b), .lit (.int .i64 c), .lit (.int .i64 d)], .agg [.lit (.int .i64 e), .lit (.int .i64 f), .lit (.int .i64 g), .lit (.int .i64 h)], .agg [.lit (.int .i64 i), .lit (.int .i64 j), .lit (.int .i64 k), .lit (.int .i64 l)]]) [] := by
  obtain ⟨h0, h1, h2⟩ := hb
  have m0 := mk23 (enc := enc) (W := W) (base := base) (spare := spare) (held := held) 0 h0
  have m1 := mk23 (enc := enc) (W := W) (base := base) (spare := spare) (held := held) 0 h1
  have m2 := mk23 (enc := enc) (W := W) (base := base) (spare := spare) (held := held) 0 h2
  refine ⟨3, ?_⟩
  unfold DataW.trod
  rw [Try.underlying44]
  simp [Value.cells, cellsOf44, cellsOf23, List.range, List.range.loop, m0, m1, m2]

end
end Go.Proofs.Ytcndmhanabgamaa
