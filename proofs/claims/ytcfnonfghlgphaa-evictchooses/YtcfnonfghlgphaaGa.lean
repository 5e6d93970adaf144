/-
  The key of a victim, and its job out of it.
-/
import Derived.Test.YtcfnonfghlgphaaEa
import Derived.Test.YtcfnonfghlgphaaHLa
import Derived.Laws.BitsAllLaws
namespace Go.Proofs.Ytcfnonfghlgphaa
open Go.RowKit Go.Maps

theorem not_i64 (x : Int) (h : in64 x) : bits .xor .i64 (-1) x = -1 - x := by
  show IntKind.i64.wrap ((BitVec.ofInt 64 (-1) ^^^ BitVec.ofInt 64 x).toNat : Int) = _
  have h1 : BitVec.ofInt 64 (-1) = BitVec.allOnes 64 := by decide
  rw [h1, BitVec.allOnes_xor, BitVec.toNat_not, BitVec.toNat_ofInt]
  simp [IntKind.wrap, IntKind.bits, IntKind.signed]
  omega
theorem results_c {fn : Func} {p : Tmp} {ty : TypeId} (h : fn.results = #[.cell p ty]) (tmps : Array Value) (P : Program) (w : World) :
    (results fn tmps).run P w = ((asAddr (tmps.getD p undef)).run P w).andThen fun a w₁ => (loadVar ty a).run P w₁ := by
  simp only [results, h]
  simp [Sem.run_bind, Result.andThen]
def kOf (v : Vi) : Hp.K := ⟨v.p, -1 - v.s, -1 - v.j⟩
theorem kOf_ok {v : Vi} (h : v.in6) : (kOf v).ok := by
  obtain ⟨h1, h2, h3⟩ := h
  refine ⟨?_, ?_, ?_⟩ <;> unfold kOf Hp.i64 <;> simp only <;> omega
set_option maxHeartbeats 400000 in
theorem key_raw (j p s : Int) (a b : Value) (w : World) (hj : in64 j) (hs : in64 s) : Calls Try.prog 39 #[.agg #[.int .i64 j, .int .i64 p, .int .i64 s, a, b]] w fun e w' => e = .returned (.agg #[.int .i64 p, .int .i64 (-1 - s), .int .i64 (-1 - j)]) ∧ Below w.heap.size w w' := by
  have e1 := not_i64 j hj
  have e2 := not_i64 s hs
  go_enter Try.func39, Try.ntmps39
  go_wp2_with fail
  refine bodyPost_ret (v := .agg #[.int .i64 p, .int .i64 (-1 - s), .int .i64 (-1 - j)]) (by rw [results_c rfl]; go_simp) rfl ?_
  exact ⟨rfl, by go_grown⟩
theorem key_any (v : Vi) (w : World) (h : v.in6) : Calls Try.prog 39 #[.agg #[.int .i64 v.j, .int .i64 v.p, .int .i64 v.s, .slice v.qT v.nT v.cT, .slice v.qN v.nN v.cN]] w fun e w' => e = .returned (Hp.ktup (kOf v)) ∧ Below w.heap.size w w' := key_raw _ _ _ _ _ w h.1 h.2.2
set_option maxHeartbeats 400000 in
theorem jobOf_raw (a b c : Int) (w : World) (hc : in64 c) : Calls Try.prog 43 #[.agg #[.int .i64 a, .int .i64 b, .int .i64 c]] w fun e w' => e = .returned (.int .i64 (-1 - c)) ∧ Below w.heap.size w w' := by
  have e1 := not_i64 c hc
  go_enter Try.func43, Try.ntmps43
  go_wp2_with fail
  go_ret
  exact ⟨rfl, by go_grown⟩
end Go.Proofs.Ytcfnonfghlgphaa
