/-
  The laws' arguments, opened and shut: a key.
-/
import Derived.Test.YtmcmldlnmmbbgaaRows
import Derived.ProofKit
import Derived.OpenShut
namespace Go.Proofs.Ytmcmldlnmmbbgaa
open Go.ChangeShapes Go.WideShapes Go.ChangeAt Go.RowKit

theorem cells37 : Try.prog.cellsOf 37 = 3 := by kernel_rfl
theorem cells35 : Try.prog.cellsOf 35 = 2 := by kernel_rfl
theorem cells33 : Try.prog.cellsOf 33 = 1 := by kernel_rfl
theorem cells2 : Try.prog.cellsOf 2 = 1 := by kernel_rfl

section
variable {H : Type} {enc : TypeId × Value → H} {W : World} {base : Nat} {spare : Nat → Bool} {held : Bool}
theorem nat_u64 {n : Int} (h : (Lit.int .u64 n).wf = true) : ∃ k : Nat, n = (k : Int) ∧ k < 18446744073709551616 := by
  have := bounds_u64 h
  exact ⟨n.toNat, by omega, by omega⟩
theorem wf_u64 {k : Nat} (h : k < 18446744073709551616) : (Lit.int .u64 (k : Int)).wf = true := by
  simp [Lit.wf, IntKind.min, IntKind.max, IntKind.signed, IntKind.bits]; omega
theorem elem35 {fuel : Nat} {c0 c1 : Value} {x : DataW H × List MemPlace} (h : DataW.trod enc Try.prog W base spare held fuel 35 [c0, c1] = some x) :
    ∃ n d : Nat, n < 18446744073709551616 ∧ d < 18446744073709551616 ∧ c0 = .int .u64 n ∧ c1 = .int .u64 d ∧ x = (.agg [.lit (.int .u64 n), .lit (.int .u64 d)], []) := by
  obtain ⟨y0, y1, n, rfl, _, h0, h1⟩ := trod_struct2 Try.underlying35 h
  simp only [List.drop_zero, List.drop_succ_cons, cells33, List.take_succ_cons, List.take_zero] at h0 h1
  obtain ⟨n0, e0, rfl, w0⟩ := DataW.trod_int Try.underlying33 h0
  obtain ⟨n1, e1, rfl, w1⟩ := DataW.trod_int Try.underlying33 h1
  obtain ⟨k0, rfl, l0⟩ := nat_u64 w0
  obtain ⟨k1, rfl, l1⟩ := nat_u64 w1
  simp only [List.cons.injEq, and_true] at e0 e1
  exact ⟨k0, k1, l0, l1, e0, e1, rfl⟩
theorem mk35 (m : Nat) {n d : Nat} (hn : n < 18446744073709551616) (hd : d < 18446744073709551616) :
    DataW.trod enc Try.prog W base spare held (m + 2) 35 [.int .u64 n, .int .u64 d] = some (.agg [.lit (.int .u64 n), .lit (.int .u64 d)], []) := by
  have := trod_struct2_mk (enc := enc) (P := Try.prog) (w := W) (base := base) (spare := spare) (held := held) (n := m + 1) (cs := [.int .u64 n, .int .u64 d]) Try.underlying35 (by rw [cells35]; rfl)
    (y0 := (.lit (.int .u64 n), [])) (y1 := (.lit (.int .u64 d), []))
    (by simp only [List.drop_zero, cells33, List.take_succ_cons, List.take_zero]; exact trod_int_mk m Try.underlying33 (wf_u64 hn))
    (by simp only [List.drop_succ_cons, List.drop_zero, cells33, List.take_succ_cons, List.take_zero]; exact trod_int_mk m Try.underlying33 (wf_u64 hd))
  exact this
/-- a key's data -/
def kD (n d : Nat) (t : Int) : DataW H := .agg [.agg [.lit (.int .u64 n), .lit (.int .u64 d)], .lit (.int .i64 t)]
theorem elem37 {fuel : Nat} {c0 c1 c2 : Value} {x : DataW H × List MemPlace} (h : DataW.trod enc Try.prog W base spare held fuel 37 [c0, c1, c2] = some x) :
    ∃ (n d : Nat) (t : Int), n < 18446744073709551616 ∧ d < 18446744073709551616 ∧ (Lit.int .i64 t).wf = true ∧ c0 = .int .u64 n ∧ c1 = .int .u64 d ∧ c2 = .int .i64 t ∧ x = (kD n d t, []) := by
  obtain ⟨y0, y1, n, rfl, _, h0, h1⟩ := trod_struct2 Try.underlying37 h
  simp only [List.drop_zero, List.drop_succ_cons, cells35, cells2, List.take_succ_cons, List.take_zero] at h0 h1
  obtain ⟨k0, k1, l0, l1, rfl, rfl, rfl⟩ := elem35 h0
  obtain ⟨n1, e1, rfl, w1⟩ := DataW.trod_int Try.underlying2 h1
  simp only [List.cons.injEq, and_true] at e1
  exact ⟨k0, k1, n1, l0, l1, w1, rfl, rfl, e1, rfl⟩
theorem mk37 (m : Nat) {n d : Nat} {t : Int} (hn : n < 18446744073709551616) (hd : d < 18446744073709551616) (ht : (Lit.int .i64 t).wf = true) :
    DataW.trod enc Try.prog W base spare held (m + 3) 37 [.int .u64 n, .int .u64 d, .int .i64 t] = some (kD n d t, []) := by
  have := trod_struct2_mk (enc := enc) (P := Try.prog) (w := W) (base := base) (spare := spare) (held := held) (n := m + 2) (cs := [.int .u64 n, .int .u64 d, .int .i64 t]) Try.underlying37 (by rw [cells37]; rfl)
    (y0 := (.agg [.lit (.int .u64 n), .lit (.int .u64 d)], [])) (y1 := (.lit (.int .i64 t), []))
    (by simp only [List.drop_zero, cells35, List.take_succ_cons, List.take_zero]; exact mk35 m hn hd)
    (by simp only [List.drop_succ_cons, List.drop_zero, cells2, List.take_succ_cons, List.take_zero]; exact trod_int_mk (m + 1) Try.underlying2 ht)
  exact this
theorem arr3 {α : Type} {cs : Array α} (h : cs.size = 3) : ∃ c0 c1 c2, cs = #[c0, c1, c2] := by
  obtain ⟨l⟩ := cs
  match l, h with
  | [c0, c1, c2], _ => exact ⟨c0, c1, c2, rfl⟩
set_option maxRecDepth 100000 in
theorem open_key {r : Reach} {b0 : Nat} {v : Value} {D : DataW H} {p : List MemPlace} (hv : Value.okWide Try.prog W r b0 37 v) (h : DataW.Trod enc Try.prog W base spare held 37 v D p) :
    ∃ (n d : Nat) (t : Int), n < 18446744073709551616 ∧ d < 18446744073709551616 ∧ (Lit.int .i64 t).wf = true ∧ v = .agg #[.int .u64 n, .int .u64 d, .int .i64 t] ∧ D = kD n d t ∧ p = [] := by
  obtain ⟨cs, rfl, hsz⟩ := okWide_struct Try.underlying37 hv
  obtain ⟨c0, c1, c2, rfl⟩ := arr3 (hsz.trans cells37)
  obtain ⟨fuel, hf⟩ := h
  obtain ⟨n, d, t, hn, hd, ht, rfl, rfl, rfl, hx⟩ := elem37 (c0 := c0) (c1 := c1) (c2 := c2) hf
  simp only [Prod.mk.injEq] at hx
  exact ⟨n, d, t, hn, hd, ht, rfl, hx.1, hx.2⟩
theorem shut_key {n d : Nat} {t : Int} (hn : n < 18446744073709551616) (hd : d < 18446744073709551616) (ht : (Lit.int .i64 t).wf = true) :
    DataW.Trod enc Try.prog W base spare held 37 (.agg #[.int .u64 n, .int .u64 d, .int .i64 t]) (kD n d t) [] := ⟨3, mk37 0 hn hd ht⟩
end
end Go.Proofs.Ytmcmldlnmmbbgaa
