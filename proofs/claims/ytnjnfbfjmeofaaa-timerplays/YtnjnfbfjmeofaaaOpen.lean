/-
  The laws' arguments, opened and shut: three numbers.
-/
import Derived.Test.YtnjnfbfjmeofaaaBase
import Derived.ProofKit
import Derived.OpenShut
namespace Go.Proofs.Ytnjnfbfjmeofaaa
open Go.ChangeShapes Go.WideShapes Go.ChangeAt Go.RowKit

theorem cellsOf2 : Try.prog.cellsOf 2 = 1 := by kernel_rfl
theorem cellsOf49 : Try.prog.cellsOf 49 = 3 := by kernel_rfl

structure K where
  a : Int
  b : Int
  c : Int
abbrev i64 (x : Int) : Prop := -9223372036854775808 ≤ x ∧ x < 9223372036854775808
structure K.ok (k : K) : Prop where
  a : i64 k.a
  b : i64 k.b
  c : i64 k.c
section
variable {H : Type} {enc : TypeId × Value → H} {W : World} {base : Nat} {spare : Nat → Bool} {held : Bool}

/-- a number of the kind int64 -/
abbrev I64 (n : Int) : Prop := (Lit.int .i64 n).wf = true
theorem i64_of {n : Int} (h : I64 n) : i64 n := by
  have := bounds_i64 h
  exact ⟨by omega, by omega⟩
theorem of_i64 {n : Int} (h : i64 n) : I64 n := by
  unfold I64
  have h1 := h.1
  have h2 := h.2
  simp [Lit.wf, IntKind.min, IntKind.max, IntKind.signed, IntKind.bits]
  omega
/-- their data -/
def kD (k : K) : DataW H := .agg [.lit (.int .i64 k.a), .lit (.int .i64 k.b), .lit (.int .i64 k.c)]
theorem elem49 {fuel : Nat} {c0 c1 c2 : Value} {x : DataW H × List MemPlace} (h : DataW.trod enc Try.prog W base spare held fuel 49 [c0, c1, c2] = some x) :
    ∃ k : K, k.ok ∧ (c0 = .int .i64 k.a ∧ c1 = .int .i64 k.b ∧ c2 = .int .i64 k.c) ∧ x = (kD k, []) := by
  obtain ⟨xs, m, _, hx, _, hlen, hget⟩ := DataW.trod_array Try.underlying49 h
  have g0 := hget 0 (by omega)
  have g1 := hget 1 (by omega)
  have g2 := hget 2 (by omega)
  match xs, hlen with
  | [x0, x1, x2], _ =>
    simp only [cellsOf2, Nat.zero_mul, Nat.one_mul, Nat.reduceMul, List.drop_zero, List.drop_succ_cons, List.take_succ_cons, List.take_zero, List.getElem?_cons_zero, List.getElem?_cons_succ] at g0 g1 g2
    obtain ⟨n0, e0, r0, w0⟩ := DataW.trod_int Try.underlying2 g0
    obtain ⟨n1, e1, r1, w1⟩ := DataW.trod_int Try.underlying2 g1
    obtain ⟨n2, e2, r2, w2⟩ := DataW.trod_int Try.underlying2 g2
    simp only [List.cons.injEq, and_true] at e0 e1 e2
    subst r0 r1 r2
    exact ⟨⟨n0, n1, n2⟩, ⟨i64_of w0, i64_of w1, i64_of w2⟩, ⟨e0, e1, e2⟩, hx⟩
theorem mk49 (m : Nat) {k : K} (hk : k.ok) :
    DataW.trod enc Try.prog W base spare held (m + 2) 49 [.int .i64 k.a, .int .i64 k.b, .int .i64 k.c] = some (kD k, []) := by
  have m0 := trod_int_mk (enc := enc) (P := Try.prog) (w := W) (base := base) (spare := spare) (held := held) m Try.underlying2 (of_i64 hk.a)
  have m1 := trod_int_mk (enc := enc) (P := Try.prog) (w := W) (base := base) (spare := spare) (held := held) m Try.underlying2 (of_i64 hk.b)
  have m2 := trod_int_mk (enc := enc) (P := Try.prog) (w := W) (base := base) (spare := spare) (held := held) m Try.underlying2 (of_i64 hk.c)
  unfold DataW.trod
  rw [Try.underlying49]
  simp [cellsOf49, cellsOf2, List.range, List.range.loop, m0, m1, m2, kD]
theorem okWide_arr {n : Nat} {e t : TypeId} {P : Program} {w : World} {r : Reach} {b : Nat} {v : Value} (ht : P.underlying t = some (.array n e)) (h : Value.okWide P w r b t v) : ∃ cs, v = .agg cs ∧ cs.size = P.cellsOf t := by
  simp only [Value.okWide, ht] at h
  obtain ⟨cs, h1, h2, _⟩ := h
  exact ⟨cs, h1, h2⟩
theorem arr3 {α : Type} {cs : Array α} (h : cs.size = 3) : ∃ c0 c1 c2, cs = #[c0, c1, c2] := by
  obtain ⟨l⟩ := cs
  match l, h with
  | [c0, c1, c2], _ => exact ⟨c0, c1, c2, rfl⟩
theorem open_key {r : Reach} {b0 : Nat} {v : Value} {x : DataW H} {p : List MemPlace} (hv : Value.okWide Try.prog W r b0 49 v) (h : DataW.Trod enc Try.prog W base spare held 49 v x p) :
    ∃ k : K, k.ok ∧ v = .agg #[.int .i64 k.a, .int .i64 k.b, .int .i64 k.c] ∧ x = kD k ∧ p = [] := by
  obtain ⟨cs, rfl, hsz⟩ := okWide_arr Try.underlying49 hv
  obtain ⟨c0, c1, c2, rfl⟩ := arr3 (hsz.trans cellsOf49)
  obtain ⟨fuel, hf⟩ := h
  obtain ⟨k, hk, ⟨rfl, rfl, rfl⟩, hx⟩ := elem49 (c0 := c0) (c1 := c1) (c2 := c2) hf
  simp only [Prod.mk.injEq] at hx
  exact ⟨k, hk, rfl, hx.1, hx.2⟩
theorem shut_key {k : K} (hk : k.ok) : DataW.Trod enc Try.prog W base spare held 49 (.agg #[.int .i64 k.a, .int .i64 k.b, .int .i64 k.c]) (kD k) [] := ⟨2, mk49 0 hk⟩
end
end Go.Proofs.Ytnjnfbfjmeofaaa
