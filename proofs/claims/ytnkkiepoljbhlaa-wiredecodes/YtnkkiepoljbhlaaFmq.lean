/-
  The reference's Job of any job.
-/
import Derived.Test.YtnkkiepoljbhlaaFmp
namespace Go.Proofs.Ytnkkiepoljbhlaa
open Go.RowKit

theorem wi_cases {a lo hi : Int} (h : wi a lo hi = false) : a < lo ∨ (decide (a < lo) = false ∧ hi < a) := by
  unfold wi at h
  by_cases h1 : a < lo
  · exact .inl h1
  · refine .inr ⟨decide_eq_false h1, ?_⟩
    simp at h
    omega
theorem wi_ok {a lo hi : Int} (h : wi a lo hi = true) : decide (a < lo) = false ∧ decide (hi < a) = false := by
  unfold wi at h
  simp at h
  exact ⟨decide_eq_false (by omega), decide_eq_false (by omega)⟩
theorem unt_cases {st at' sr : Int} {n d : Nat} (h : unt st at' sr n d = false) : (st == 0) = false ∨ (st = 0 ∧ (at' == 0) = false) ∨ (st = 0 ∧ at' = 0 ∧ (sr == 0) = false) ∨ (st = 0 ∧ at' = 0 ∧ sr = 0 ∧ (0 : Int) < (n : Int)) ∨ (st = 0 ∧ at' = 0 ∧ sr = 0 ∧ n = 0 ∧ (0 : Int) < (d : Int)) := by
  unfold unt at h
  simp at h ⊢
  omega
theorem unt_ok {st at' sr : Int} {n d : Nat} (h : unt st at' sr n d = true) : st = 0 ∧ at' = 0 ∧ sr = 0 ∧ n = 0 ∧ d = 0 := by
  unfold unt at h
  simpa using h
theorem rjob (j : JB) (L : JL) (w : World) (h : j.has w L) (hs : j.tn.size ≤ 9223372036854775000) :
    Calls Try.prog 30 #[.agg j.cells] w fun e w' => e = .returned (.bool (jfm j L)) ∧ Below w.heap.size w w' := by
  obtain ⟨id, tn, pr, rt, ⟨pa, pn, pc⟩, ⟨ta, tk, tc⟩, st, at', ⟨na, nn, nc⟩, sr, ⟨da, dn, dc⟩⟩ := j
  obtain ⟨h1, h2, h3, h4⟩ := h
  have k1 : pn = L.pa.length := h1.2.1
  have k2 : tk = L.tk.length := h2.2.1
  have k3 : nn = L.nd.length := h3.2.1
  have k4 : dn = L.dn.length := h4.2.1
  have l1 : LiesV w pa (intsV L.pa) := h1.1
  have l2 : LiesV w ta (flat L.tk) := h2.1
  clear h1 h2 h3 h4
  have G1 : Hid (∀ W, Calls Try.prog 31 #[.int .i64 id] W fun e w' => e = .returned (.bool (wi id 1 100)) ∧ Below W.heap.size W w') := fun W => rjnumber_any id W
  have G2 : Hid (∀ W, Calls Try.prog 28 #[.string tn] W fun e w' => e = .returned (.bool (Txt.name tn)) ∧ w' = W) := fun W => rname_any tn W hs
  have ej : jfm ⟨id, tn, pr, rt, ⟨pa, pn, pc⟩, ⟨ta, tk, tc⟩, st, at', ⟨na, nn, nc⟩, sr, ⟨da, dn, dc⟩⟩ L = (wi id 1 100 && Txt.name tn && wi pr 0 100 && wi rt 1 1000 && (decide (pn ≤ 4) && par id 0 L.pa) && (decide (1 ≤ tk ∧ tk ≤ 6) && L.tk.all V4.fm) && unt st at' sr nn dn) := by
    rw [k1, k2, k3, k4]
    rfl
  rw [ej]
  clear ej
  show Calls Try.prog 30 #[.agg #[.int .i64 id, .string tn, .int .i64 pr, .int .i64 rt, .slice pa pn pc, .slice ta tk tc, .int .i64 st, .int .i64 at', .slice na nn nc, .int .i64 sr, .slice da dn dc]] w _
  cases x1 : wi id 1 100 with
  | false => simpa using rjob_a id pr rt st at' sr tn pa ta na da pn pc tk tc nn nc dn dc _ _ w G1 G2 x1
  | true =>
  cases x2 : Txt.name tn with
  | false => simpa using rjob_b id pr rt st at' sr tn pa ta na da pn pc tk tc nn nc dn dc _ _ w G1 G2 x1 x2
  | true =>
  cases x3 : wi pr 0 100 with
  | false =>
    rcases wi_cases x3 with q | ⟨q0, q⟩
    · simpa using rjob_c0 id pr rt st at' sr tn pa ta na da pn pc tk tc nn nc dn dc _ _ w G1 G2 x1 x2 q
    · simpa using rjob_c1 id pr rt st at' sr tn pa ta na da pn pc tk tc nn nc dn dc _ _ w G1 G2 x1 x2 q0 q
  | true =>
  obtain ⟨f0, f1⟩ := wi_ok x3
  cases x4 : wi rt 1 1000 with
  | false =>
    rcases wi_cases x4 with q | ⟨q0, q⟩
    · simpa using rjob_c2 id pr rt st at' sr tn pa ta na da pn pc tk tc nn nc dn dc _ _ w G1 G2 x1 x2 f0 f1 q
    · simpa using rjob_c3 id pr rt st at' sr tn pa ta na da pn pc tk tc nn nc dn dc _ _ w G1 G2 x1 x2 f0 f1 q0 q
  | true =>
  obtain ⟨f2, f3⟩ := wi_ok x4
  cases x5 : unt st at' sr nn dn with
  | false =>
    rcases unt_cases x5 with q | ⟨z0, q⟩ | ⟨z0, z1, q⟩ | ⟨z0, z1, z2, q⟩ | ⟨z0, z1, z2, z3, q⟩
    · simpa using rjob_d0 id pr rt st at' sr tn pa ta na da pn pc tk tc nn nc dn dc _ _ w G1 G2 x1 x2 f0 f1 f2 f3 q
    · simpa using rjob_d1 id pr rt st at' sr tn pa ta na da pn pc tk tc nn nc dn dc _ _ w G1 G2 x1 x2 f0 f1 f2 f3 z0 q
    · simpa using rjob_d2 id pr rt st at' sr tn pa ta na da pn pc tk tc nn nc dn dc _ _ w G1 G2 x1 x2 f0 f1 f2 f3 z0 z1 q
    · simpa using rjob_d3 id pr rt st at' sr tn pa ta na da pn pc tk tc nn nc dn dc _ _ w G1 G2 x1 x2 f0 f1 f2 f3 z0 z1 z2 q
    · simpa using rjob_d4 id pr rt st at' sr tn pa ta na da pn pc tk tc nn nc dn dc _ _ w G1 G2 x1 x2 f0 f1 f2 f3 z0 z1 z2 z3 q
  | true =>
  obtain ⟨z0, z1, z2, z3, z4⟩ := unt_ok x5
  by_cases p4 : 4 < pn
  · have e : decide (pn ≤ 4) = false := decide_eq_false (by omega)
    rw [e]
    simpa using rjob_e0 id pr rt st at' sr tn pa ta na da pn pc tk tc nn nc dn dc _ _ w G1 G2 x1 x2 f0 f1 f2 f3 z0 z1 z2 z3 z4 (by omega)
  have l0 : decide ((4 : Int) < (pn : Int)) = false := decide_eq_false (by omega)
  by_cases t1 : tk < 1
  · have e : decide (1 ≤ tk ∧ tk ≤ 6) = false := decide_eq_false (by omega)
    rw [e]
    simpa using rjob_e1 id pr rt st at' sr tn pa ta na da pn pc tk tc nn nc dn dc _ _ w G1 G2 x1 x2 f0 f1 f2 f3 z0 z1 z2 z3 z4 l0 (by omega)
  have m1 : decide ((tk : Int) < 1) = false := decide_eq_false (by omega)
  by_cases t6 : 6 < tk
  · have e : decide (1 ≤ tk ∧ tk ≤ 6) = false := decide_eq_false (by omega)
    rw [e]
    simpa using rjob_e2 id pr rt st at' sr tn pa ta na da pn pc tk tc nn nc dn dc _ _ w G1 G2 x1 x2 f0 f1 f2 f3 z0 z1 z2 z3 z4 l0 m1 (by omega)
  have m2 : decide ((6 : Int) < (tk : Int)) = false := decide_eq_false (by omega)
  have e : decide (1 ≤ tk ∧ tk ≤ 6) = true := decide_eq_true (by omega)
  have e' : decide (pn ≤ 4) = true := decide_eq_true (by omega)
  rw [e, e']
  rw [x1] at G1
  rw [x2] at G2
  subst z0 z1 z2 z3 z4
  simpa using rjob_good id pr rt tn pa ta na da pn pc tk tc nc dc L.pa L.tk w G1 G2 f0 f1 f2 f3 l0 m1 m2 ⟨k1.symm, l1⟩ ⟨k2.symm, l2⟩
end Go.Proofs.Ytnkkiepoljbhlaa
