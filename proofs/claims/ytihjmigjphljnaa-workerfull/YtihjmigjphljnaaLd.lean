/-
  WorkerEpochs' law.
-/
import Derived.Test.YtihjmigjphljnaaLc
import Derived.Test.YtihjmigjphljnaaOpn
namespace Go.Proofs.Ytihjmigjphljnaa
open Go.RowKit Go.Maps Go.WideMaps
open Tk

theorem getN_put {n : Nd} {D : List Nd} (h : Srt Nd.k D) (s : List UInt8) : getN (put n D) s = if s = n.k then n else getN D s := by
  unfold getN
  rw [fnd_put h]
  split <;> rfl
/-- what an operation does to a table: no epoch falls, nobody is seen behind now -/
structure Inc (D D' : List Nd) (now : Int) : Prop where
  ep : ∀ t, (getN D t).ep ≤ (getN D' t).ep
  sn : ∀ n ∈ D', n.sn ≤ now
theorem inc_refl {D : List Nd} {now : Int} (h : ∀ n ∈ D, n.sn ≤ now) : Inc D D now := ⟨fun _ => Int.le_refl _, h⟩
theorem inc_reg {D : List Nd} {s : ByteArray} {ep now : Int} {v : V} (hs : Srt Nd.k D) (hi : ∀ n ∈ D, n.sn ≤ now) : Inc D (regR D s ep v now).2 now := by
  unfold regR
  by_cases h1 : (Txt.name s && v.ok) = true
  · rw [if_pos h1]
    by_cases h2 : inR ep now
    · rw [if_pos (inR_dec'.2 h2)]
      cases hf : fnd Nd.k s.data.toList D with
      | none =>
        simp only
        split
        · exact inc_refl hi
        · refine ⟨fun t => ?_, fun n hn => ?_⟩
          · rw [getN_put hs]
            split
            · rename_i e
              have e : t = s.data.toList := e
              unfold getN
              rw [e, hf]
              have := h2.1.1
              show (0 : Int) ≤ ep
              omega
            · exact Int.le_refl _
          · rcases mem_put.1 hn with rfl | hn
            · exact Int.le_refl _
            · exact hi n hn.1
      | some o =>
        simp only
        split
        · exact inc_refl hi
        · rename_i hlt
          refine ⟨fun t => ?_, fun n hn => ?_⟩
          · rw [getN_put hs]
            split
            · rename_i e
              have e : t = s.data.toList := e
              unfold getN
              rw [e, hf]
              show o.ep ≤ ep
              omega
            · exact Int.le_refl _
          · rcases mem_put.1 hn with rfl | hn
            · exact Int.le_refl _
            · exact hi n hn.1
    · rw [if_neg (fun q => h2 (inR_dec'.1 q))]
      exact inc_refl hi
  · rw [if_neg h1]
    exact inc_refl hi
theorem inc_beat {D : List Nd} {s : List UInt8} {ep now : Int} (hs : Srt Nd.k D) (hi : ∀ n ∈ D, n.sn ≤ now) : Inc D (beatR D s ep now).2 now := by
  unfold beatR
  cases hf : fnd Nd.k s D with
  | none => exact inc_refl hi
  | some o =>
    simp only
    split
    · split
      · refine ⟨fun t => ?_, fun n hn => ?_⟩
        · rw [getN_put hs]
          split
          · rename_i e
            have e : t = o.k := e
            unfold getN
            rw [e, (fnd_some hf).2, hf]
            exact Int.le_refl _
          · exact Int.le_refl _
        · rcases mem_put.1 hn with rfl | hn
          · exact Int.le_refl _
          · exact hi n hn.1
      · exact inc_refl hi
    · exact inc_refl hi
theorem inc_exp {D : List Nd} {now : Int} (hi : ∀ n ∈ D, n.sn ≤ now) : Inc D (expR D now) now := by
  have e1 : ∀ n : Nd, (n.exp now).ep = n.ep := fun n => by unfold Nd.exp Nd.off; split <;> rfl
  have e2 : ∀ n : Nd, (n.exp now).sn = n.sn := fun n => by unfold Nd.exp Nd.off; split <;> rfl
  refine ⟨fun t => ?_, fun n hn => ?_⟩
  · unfold getN
    rw [fnd_exp]
    cases fnd Nd.k t D with
    | none => exact Int.le_refl _
    | some o => show o.ep ≤ (o.exp now).ep; rw [e1]; exact Int.le_refl _
  · obtain ⟨m, hm, rfl⟩ := List.mem_map.1 hn
    rw [e2]
    exact hi m hm
theorem live_exp {D : List Nd} {now : Int} : ∀ n ∈ (expR D now).filter Nd.lv, now < n.sn + 10 := fun n hn => by
  obtain ⟨h1, h2⟩ := List.mem_filter.1 hn
  obtain ⟨m, hm, rfl⟩ := List.mem_map.1 h1
  by_cases h : m.lost now = true
  · unfold Nd.exp at h2
    rw [h] at h2
    cases h2
  · have e : m.exp now = m := by unfold Nd.exp; rw [if_neg h]
    rw [e] at h2 ⊢
    unfold Nd.lost at h
    rw [h2, Bool.true_and] at h
    have : ¬ m.sn + 10 ≤ now := fun q => h (decide_eq_true q)
    omega
theorem LL.tab {w0 w : World} {X : Nat → Option Obj} {pb : Nat} {D : List Nd} (h : LL w0 w X pb D) : Srt Nd.k D ∧ D.length ≤ 12 ∧ ∀ n ∈ D, n.ok := by
  obtain ⟨S, h1, -⟩ := h.led
  exact ⟨h1.srt, h1.len, h1.ok⟩
theorem LL.weak {w0 w : World} {X : Nat → Option Obj} {pb : Nat} {D : List Nd} (h : LL w0 w X pb D) : LL w0 w NX pb D := by
  obtain ⟨S, h1, h2⟩ := h.led
  exact ⟨h.bel, ⟨S, h1, fun k hk => ⟨(h2 k hk).1, rfl⟩⟩, kept_none w⟩
/-- the state of the law: the table, the tick, the last epoch told -/
def Est (w W : World) (X : Nat → Option Obj) (tb : Nat) (s : ByteArray) (now last : Int) : Prop := (0 ≤ now ∧ now ≤ 999) ∧ ∃ D, LL w W X tb D ∧ (∀ n ∈ D, n.sn ≤ now) ∧ last ≤ (getN D s.data.toList).ep
theorem Est.of {w W' : World} {X : Nat → Option Obj} {tb : Nat} {s : ByteArray} {now last : Int} {D D' : List Nd} (hn : 0 ≤ now ∧ now ≤ 999) (hl : last ≤ (getN D s.data.toList).ep) (h' : LL w W' X tb D') (i : Inc D D' now) : Est w W' X tb s now last := ⟨hn, D', h', i.sn, Int.le_trans hl (i.ep _)⟩
def oB (o : Opr) : Obj := .cells #[.int .i64 o.k, .string o.nm, .int .i64 o.ep, .int .i64 o.now, .int .i64 o.v.a, .int .i64 o.v.b, .int .i64 o.v.c, .int .i64 o.v.d] 34 (0, 0)
theorem oB_cells {w : World} {g : Nat} {o : Opr} (h : w.heap[g]? = some (oB o)) : w.cell? ⟨g, 0, none⟩ = some (.int .i64 o.k) ∧ w.cell? ⟨g, 1, none⟩ = some (.string o.nm) ∧ w.cell? ⟨g, 2, none⟩ = some (.int .i64 o.ep) ∧ w.cell? ⟨g, 3, none⟩ = some (.int .i64 o.now) ∧ w.cell? ⟨g, 4, none⟩ = some (.int .i64 o.v.a) ∧ w.cell? ⟨g, 5, none⟩ = some (.int .i64 o.v.b) ∧ w.cell? ⟨g, 6, none⟩ = some (.int .i64 o.v.c) ∧ w.cell? ⟨g, 7, none⟩ = some (.int .i64 o.v.d) := by
  unfold oB at h
  refine ⟨?_, ?_, ?_, ?_, ?_, ?_, ?_, ?_⟩ <;> (rw [cell_of h]; rfl)
end Go.Proofs.Ytihjmigjphljnaa
