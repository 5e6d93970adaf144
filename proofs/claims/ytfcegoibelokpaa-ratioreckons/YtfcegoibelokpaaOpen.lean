/-
  The laws' arguments, opened and shut: a ratio, three ratios.
-/
import Derived.Test.YtfcegoibelokpaaRows
import Derived.ProofKit
import Derived.OpenShut
namespace Go.Proofs.Ytfcegoibelokpaa
open Go.ChangeShapes Go.WideShapes Go.ChangeAt Go.RowKit

theorem cells24 : Try.prog.cellsOf 24 = 2 := by kernel_rfl
theorem cells22 : Try.prog.cellsOf 22 = 1 := by kernel_rfl
theorem cells40 : Try.prog.cellsOf 40 = 6 := by kernel_rfl

section
variable {H : Type} {enc : TypeId × Value → H} {W : World} {base : Nat} {spare : Nat → Bool} {held : Bool}

theorem nat_u64 {n : Int} (h : (Lit.int .u64 n).wf = true) : ∃ k : Nat, n = (k : Int) ∧ k < 18446744073709551616 := by
  have := bounds_u64 h
  exact ⟨n.toNat, by omega, by omega⟩
theorem wf_u64 {k : Nat} (h : k < 18446744073709551616) : (Lit.int .u64 (k : Int)).wf = true := by
  simp [Lit.wf, IntKind.min, IntKind.max, IntKind.signed, IntKind.bits]; omega

theorem elem24 {fuel : Nat} {c0 c1 : Value} {x : DataW H × List MemPlace} (h : DataW.trod enc Try.prog W base spare held fuel 24 [c0, c1] = some x) :
    ∃ n d : Nat, n < 18446744073709551616 ∧ d < 18446744073709551616 ∧ c0 = .int .u64 n ∧ c1 = .int .u64 d ∧ x = (.agg [.lit (.int .u64 n), .lit (.int .u64 d)], []) := by
  obtain ⟨y0, y1, n, rfl, _, h0, h1⟩ := trod_struct2 Try.underlying24 h
  simp only [List.drop_zero, List.drop_succ_cons, cells22, List.take_succ_cons, List.take_zero] at h0 h1
  obtain ⟨n0, e0, rfl, w0⟩ := DataW.trod_int Try.underlying22 h0
  obtain ⟨n1, e1, rfl, w1⟩ := DataW.trod_int Try.underlying22 h1
  obtain ⟨k0, rfl, l0⟩ := nat_u64 w0
  obtain ⟨k1, rfl, l1⟩ := nat_u64 w1
  simp only [List.cons.injEq, and_true] at e0 e1
  exact ⟨k0, k1, l0, l1, e0, e1, rfl⟩

theorem mk24 (m : Nat) {n d : Nat} (hn : n < 18446744073709551616) (hd : d < 18446744073709551616) :
    DataW.trod enc Try.prog W base spare held (m + 2) 24 [.int .u64 n, .int .u64 d] = some (.agg [.lit (.int .u64 n), .lit (.int .u64 d)], []) := by
  have := trod_struct2_mk (enc := enc) (P := Try.prog) (w := W) (base := base) (spare := spare) (held := held) (n := m + 1) (cs := [.int .u64 n, .int .u64 d]) Try.underlying24 (by rw [cells24]; rfl)
    (y0 := (.lit (.int .u64 n), [])) (y1 := (.lit (.int .u64 d), []))
    (by simp only [List.drop_zero, cells22, List.take_succ_cons, List.take_zero]; exact trod_int_mk m Try.underlying22 (wf_u64 hn))
    (by simp only [List.drop_succ_cons, List.drop_zero, cells22, List.take_succ_cons, List.take_zero]; exact trod_int_mk m Try.underlying22 (wf_u64 hd))
  exact this

theorem okWide_arr {n : Nat} {e t : TypeId} {P : Program} {w : World} {r : Reach} {b : Nat} {v : Value} (ht : P.underlying t = some (.array n e)) (h : Value.okWide P w r b t v) : ∃ cs, v = .agg cs ∧ cs.size = P.cellsOf t := by
  simp only [Value.okWide, ht] at h
  obtain ⟨cs, h1, h2, _⟩ := h
  exact ⟨cs, h1, h2⟩
theorem arr2 {α : Type} {cs : Array α} (h : cs.size = 2) : ∃ c0 c1, cs = #[c0, c1] := by
  obtain ⟨l⟩ := cs
  match l, h with
  | [c0, c1], _ => exact ⟨c0, c1, rfl⟩

theorem open_ratio {r : Reach} {b0 : Nat} {v : Value} {d : DataW H} {p : List MemPlace} (hv : Value.okWide Try.prog W r b0 24 v) (h : DataW.Trod enc Try.prog W base spare held 24 v d p) :
    ∃ n k : Nat, n < 18446744073709551616 ∧ k < 18446744073709551616 ∧ v = .agg #[.int .u64 n, .int .u64 k] ∧ d = .agg [.lit (.int .u64 n), .lit (.int .u64 k)] ∧ p = [] := by
  obtain ⟨cs, rfl, hsz⟩ := okWide_struct Try.underlying24 hv
  obtain ⟨c0, c1, rfl⟩ := arr2 (hsz.trans cells24)
  obtain ⟨fuel, hf⟩ := h
  obtain ⟨n, k, hn, hk, rfl, rfl, hx⟩ := elem24 (c0 := c0) (c1 := c1) hf
  simp only [Prod.mk.injEq] at hx
  exact ⟨n, k, hn, hk, rfl, hx.1, hx.2⟩

theorem shut_ratio {n k : Nat} (hn : n < 18446744073709551616) (hk : k < 18446744073709551616) :
    DataW.Trod enc Try.prog W base spare held 24 (.agg #[.int .u64 n, .int .u64 k]) (.agg [.lit (.int .u64 n), .lit (.int .u64 k)]) [] := ⟨2, mk24 0 hn hk⟩

theorem arr6 {α : Type} {cs : Array α} (h : cs.size = 6) : ∃ c0 c1 c2 c3 c4 c5, cs = #[c0, c1, c2, c3, c4, c5] := by
  obtain ⟨l⟩ := cs
  match l, h with
  | [c0, c1, c2, c3, c4, c5], _ => exact ⟨c0, c1, c2, c3, c4, c5, rfl⟩

theorem open_ratios {r : Reach} {b0 : Nat} {v : Value} {d : DataW H} {p : List MemPlace} (hv : Value.okWide Try.prog W r b0 40 v) (h : DataW.Trod enc Try.prog W base spare held 40 v d p) :
    ∃ n0 k0 n1 k1 n2 k2 : Nat, (n0 < 18446744073709551616 ∧ k0 < 18446744073709551616 ∧ n1 < 18446744073709551616 ∧ k1 < 18446744073709551616 ∧ n2 < 18446744073709551616 ∧ k2 < 18446744073709551616) ∧ v = .agg #[.int .u64 n0, .int .u64 k0, .int .u64 n1, .int .u64 k1, .int .u64 n2, .int .u64 k2] ∧
      d = .agg [.agg [.lit (.int .u64 n0), .lit (.int .u64 k0)], .agg [.lit (.int .u64 n1), .lit (.int .u64 k1)], .agg [.lit (.int .u64 n2), .lit (.int .u64 k2)]] ∧ p = [] := by
  obtain ⟨cs, rfl, hsz⟩ := okWide_arr Try.underlying40 hv
  obtain ⟨c0, c1, c2, c3, c4, c5, rfl⟩ := arr6 (hsz.trans cells40)
  obtain ⟨fuel, hf⟩ := h
  obtain ⟨xs, m, _, hx, _, hlen, hget⟩ := DataW.trod_array Try.underlying40 hf
  have g0 := hget 0 (by omega)
  have g1 := hget 1 (by omega)
  have g2 := hget 2 (by omega)
  match xs, hlen with
  | [x0, x1, x2], _ =>
    simp only [cells24, Value.cells, Nat.zero_mul, Nat.one_mul, Nat.reduceMul, List.drop_zero, List.drop_succ_cons, List.take_succ_cons, List.take_zero, List.getElem?_cons_zero, List.getElem?_cons_succ] at g0 g1 g2
    obtain ⟨n0, k0, hn0, hk0, rfl, rfl, rfl⟩ := elem24 g0
    obtain ⟨n1, k1, hn1, hk1, rfl, rfl, rfl⟩ := elem24 g1
    obtain ⟨n2, k2, hn2, hk2, rfl, rfl, rfl⟩ := elem24 g2
    simp only [Prod.mk.injEq] at hx
    exact ⟨n0, k0, n1, k1, n2, k2, ⟨hn0, hk0, hn1, hk1, hn2, hk2⟩, rfl, hx.1, hx.2⟩

theorem shut_ratios {n0 k0 n1 k1 n2 k2 : Nat} (hb : n0 < 18446744073709551616 ∧ k0 < 18446744073709551616 ∧ n1 < 18446744073709551616 ∧ k1 < 18446744073709551616 ∧ n2 < 18446744073709551616 ∧ k2 < 18446744073709551616) :
    DataW.Trod enc Try.prog W base spare held 40 (.agg #[.int .u64 n0, .int .u64 k0, .int .u64 n1, .int .u64 k1, .int .u64 n2, .int .u64 k2])
      (.agg [.agg [.lit (.int .u64 n0), .lit (.int .u64 k0)], .agg [.lit (.int .u64 n1), .lit (.int .u64 k1)], .agg [.lit (.int .u64 n2), .lit (.int .u64 k2)]]) [] := by
  obtain ⟨a, b, c, d, e, f⟩ := hb
  have m0 := mk24 (enc := enc) (W := W) (base := base) (spare := spare) (held := held) 0 a b
  have m1 := mk24 (enc := enc) (W := W) (base := base) (spare := spare) (held := held) 0 c d
  have m2 := mk24 (enc := enc) (W := W) (base := base) (spare := spare) (held := held) 0 e f
  refine ⟨3, ?_⟩
  unfold DataW.trod
  rw [Try.underlying40]
  simp [Value.cells, cells40, cells24, List.range, List.range.loop, m0, m1, m2]

end
end Go.Proofs.Ytfcegoibelokpaa
