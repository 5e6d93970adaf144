/-
  The laws' arguments, opened: a waiter.
-/
import Derived.Test.YthlbeofonbbbdaaDs
import Derived.ProofKit
import Derived.OpenShut
import Derived.ShutString
import Derived.SizedLaws
import Derived.ChangeMaps5
namespace Go.Proofs.Ythlbeofonbbbdaa
open Go.ChangeShapes Go.WideShapes Go.ChangeAt Go.RowKit

theorem cellsOf2 : Try.prog.cellsOf 2 = 1 := by kernel_rfl
theorem cellsOf9 : Try.prog.cellsOf 9 = 1 := by kernel_rfl
theorem cellsOf32 : Try.prog.cellsOf 32 = 3 := by kernel_rfl
theorem laidOut : laidOutB Try.prog = true := by kernel_rfl
/-- every list and text within is of a size in reach -/
def Wt {H : Type} (t : TypeId) (d : DataW H) : Prop := ∀ m ∈ d.weights Try.prog t, m ≤ reachBytes
theorem Wt.field {H : Type} {t u : TypeId} {fs : Array Field} {parts : List (DataW H)} {j : Nat} {d : DataW H} (h : Wt t (.agg parts)) (ht : Try.prog.underlying t = some (.struct fs)) (hf : (fs.toList.map (·.type))[j]? = some u) (hd : parts[j]? = some d) : Wt u d := fun m hm =>
  h m (by simp only [DataW.weights, ht]; exact DataW.weights_mem_each hf hd m hm)
theorem Wt.text {H : Type} {t : TypeId} {s : ByteArray} (h : Wt (H := H) t (.lit (.string s.data.toList))) : s.size ≤ 140737488351232 := by
  have := h s.data.toList.length (by simp [DataW.weights])
  rw [Lib.size_eq]
  simpa [reachBytes] using this
theorem len3 {l : List Value} (h : l.length = 3) : ∃ c0 c1 c2, l = [c0, c1, c2] := by
  match l, h with
  | [c0, c1, c2], _ => exact ⟨c0, c1, c2, rfl⟩
section
variable {H : Type} {enc : TypeId × Value → H} {W : World} {base : Nat} {spare : Nat → Bool} {held : Bool}
theorem trod_struct3' {P : Program} {t : TypeId} {f0 f1 f2 : Field} {fuel : Nat} {cs : List Value} {x : DataW H × List MemPlace} (ht : P.underlying t = some (.struct #[f0, f1, f2])) (h : DataW.trod enc P W base spare held fuel t cs = some x) :
    ∃ y0 y1 y2 n, x.1 = .agg [y0.1, y1.1, y2.1] ∧ cs.length = P.cellsOf t ∧ DataW.trod enc P W base spare held n f0.type ((cs.drop f0.offset).take (P.cellsOf f0.type)) = some y0 ∧ DataW.trod enc P W base spare held n f1.type ((cs.drop f1.offset).take (P.cellsOf f1.type)) = some y1 ∧ DataW.trod enc P W base spare held n f2.type ((cs.drop f2.offset).take (P.cellsOf f2.type)) = some y2 := by
  obtain ⟨xs, n, _, rfl, hl, hlen, hf⟩ := DataW.trod_struct ht h
  match xs, hlen with
  | [y0, y1, y2], _ => exact ⟨y0, y1, y2, n, rfl, hl, by simpa using hf 0 f0 rfl, by simpa using hf 1 f1 rfl, by simpa using hf 2 f2 rfl⟩
theorem elem32 {fuel : Nat} {cs : List Value} {x : DataW H × List MemPlace} (h : DataW.trod enc Try.prog W base spare held fuel 32 cs = some x) : ∃ o : J, cs = [.int .i64 o.job, .string ⟨⟨o.tn⟩⟩, .int .i64 o.pr] ∧ (Lit.int .i64 o.job).wf = true ∧ (Lit.int .i64 o.pr).wf = true ∧ (Wt 32 x.1 → o.tn.length ≤ 281474976710656) := by
  obtain ⟨y0, y1, y2, n, hx, hl, h0, h1, h2⟩ := trod_struct3' Try.underlying32 h
  rw [cellsOf32] at hl
  obtain ⟨c0, c1, c2, rfl⟩ := len3 hl
  simp only [List.drop_zero, List.drop_succ_cons, cellsOf2, cellsOf9, List.take_succ_cons, List.take_zero] at h0 h1 h2
  obtain ⟨n0, e0, _, w0⟩ := DataW.trod_int Try.underlying2 h0
  obtain ⟨s, e1, r1, _⟩ := DataW.trod_string Try.underlying9 h1
  obtain ⟨n2, e2, _, w2⟩ := DataW.trod_int Try.underlying2 h2
  simp only [List.cons.injEq, and_true] at e0 e1 e2
  refine ⟨⟨n0, s.data.toList, n2⟩, by rw [e0, e1, e2], by first | exact w0 | exact w0.1, by first | exact w2 | exact w2.1, fun hw => ?_⟩
  rw [hx] at hw
  have k1 : Wt 9 y1.1 := Wt.field (j := 1) hw Try.underlying32 rfl rfl
  rw [r1] at k1
  have := k1.text
  have e : s.data.toList.length = s.size := rfl
  show s.data.toList.length ≤ _
  omega
set_option maxRecDepth 100000 in
theorem open_waiter {r : Reach} {b0 : Nat} {v : Value} {x : DataW H} {p : List MemPlace} (hv : Value.okWide Try.prog W r b0 32 v) (h : DataW.Trod enc Try.prog W base spare held 32 v x p) :
    ∃ k : J, v = .agg #[.int .i64 k.job, .string ⟨⟨k.tn⟩⟩, .int .i64 k.pr] ∧ (Lit.int .i64 k.job).wf = true ∧ (Lit.int .i64 k.pr).wf = true ∧ (Wt 32 x → k.tn.length ≤ 281474976710656) := by
  obtain ⟨cs, rfl, hsz⟩ := okWide_struct Try.underlying32 hv
  obtain ⟨fuel, hf⟩ := h
  obtain ⟨o, e, h1, h2, h3⟩ := elem32 (show DataW.trod enc Try.prog W base spare held fuel 32 cs.toList = some (x, p) from hf)
  refine ⟨o, ?_, h1, h2, h3⟩
  congr 1
  exact Array.toList_inj.1 e
end
end Go.Proofs.Ythlbeofonbbbdaa
