/-
  A run of calls: what is known of both logs and the disk; Sync.
-/
import Derived.Test.YtplcpjngpkghmaaKm
import Derived.Test.YtplcpjngpkghmaaKk
import Derived.Test.YtplcpjngpkghmaaKi
namespace Go.Proofs.Ytplcpjngpkghmaa
open Go.RowKit Go.Maps

/-- both logs and the disk, as plain data -/
structure Dat (pb : Nat) (D : DK) (pt : Option Addr) (first : Nat) (l : List RC) (R : RL) (N : Nat) : Prop where
  sm : SmL first l R
  fs : ∃ s y, s ≤ l.length ∧ R.syn = first + s ∧ D.fs = fsN none (some (encB first (l.map RC.b), (encB first ((l.map RC.b).take s)).length)) y
  up : R.ov = false → pt = some ⟨pb, 0, none⟩ ∧ D.down = false
  dn : R.ov = true → pt = none ∧ D.down = true
  nx : first + l.length ≤ N
  ln : (encB first (l.map RC.b)).length ≤ 16 + N
def Run (w0 w : World) (pb lb rb N : Nat) : Prop := ∃ D pt first l tg lt R v, Bo w0 w pb lb rb D pt first l tg lt R v ∧ Dat pb D pt first l R N
theorem Run.keep {w0 w w' : World} {pb lb rb N : Nat} (h : Run w0 w pb lb rb N) (b : Below w.heap.size w w') : Run w0 w' pb lb rb N := by
  obtain ⟨D, pt, first, l, tg, lt, R, v, hb, hd⟩ := h
  exact ⟨D, pt, first, l, tg, lt, R, v, hb.keep b, hd⟩
theorem run_sync {w0 w : World} {pb lb rb N : Nat} (h : Run w0 w pb lb rb N) (n : Int) (q : Option Addr) (m c : Nat) :
    Calls Try.prog 18 #[.pointer (some ⟨lb, 0, none⟩), .pointer (some ⟨rb, 0, none⟩), .agg #[.int .i64 2, .int .i64 n, .slice q m c]] w fun e w' => e = .returned (.bool true) ∧ Run w0 w' pb lb rb N := by
  obtain ⟨D, pt, first, l, tg, lt, R, v, hb, hd⟩ := h
  obtain ⟨s, y, hs, hsy, hfs⟩ := hd.fs
  have hc := hb.r.cell
  cases ho : R.ov
  · obtain ⟨rfl, hdn⟩ := hd.up ho
    rw [ho] at hc
    rcases sync_L (D := D) (o := none) (y := y) (encB first (l.map RC.b)) _ hdn hfs with ⟨h1, h2, h3, -⟩ | ⟨h1, h2, -, y', h4⟩
    · refine (step_sync_ok w lb rb v (.int .i64 R.syn) R.mb R.tr n R.first R.next q m c (fun w' => Bo w0 w' pb lb rb (syncD D nmL).2 (some ⟨pb, 0, none⟩) first l tg lt R v) fun V bV => ?_).mono ?_
      · refine (lsy_ok (P := PR V rb v R) (hb.keep bV).prog (syncD D nmL).2 (pair_of h1)).mono ?_
        rintro e w' ⟨rfl, j⟩
        have hB := (hb.keep bV).back j
        have hc' := hB.r.cell
        rw [ho] at hc'
        exact ⟨rfl, hB, hc'⟩
      · rintro e w' ⟨rfl, w1, hB, hc1, rfl⟩
        refine ⟨rfl, _, _, first, l, tg, lt, { R with syn := R.next }, v, hB.set ((Kp.refl _ w1).put 3 _) (by rw [ho] at *; exact setB hc1 _) rfl hB.r.nx hB.r.fx (Nat.le_refl _), ⟨⟨hd.sm.f, hd.sm.n, hd.sm.e⟩, ⟨l.length, y, Nat.le_refl _, hd.sm.n, ?_⟩, fun _ => ⟨rfl, h3⟩, fun e => ?_, hd.nx, hd.ln⟩⟩
        · rw [h2, List.take_of_length_le (by simp)]
        · have e' : R.ov = true := e
          rw [ho] at e'; cases e'
    · refine (step_sync_lost w lb rb v (.int .i64 R.syn) R.mb R.tr n R.first R.next q m c (fun w' => Bo w0 w' pb lb rb (syncD D nmL).2 none first l tg lt R v) fun V bV => ?_).mono ?_
      · refine (lsy_lost (P := PR V rb v R) (hb.keep bV).prog (syncD D nmL).2 (by show syncD D nmL = _; rw [← h1])).mono ?_
        rintro e w' ⟨rfl, j⟩
        have hB := (hb.keep bV).back j
        have hc' := hB.r.cell
        rw [ho] at hc'
        exact ⟨rfl, hB, hc'⟩
      · rintro e w' ⟨rfl, w1, hB, hc1, rfl⟩
        refine ⟨rfl, _, _, first, l, tg, lt, { R with ov := true }, v, hB.set ((Kp.refl _ w1).put 6 _) (setB hc1 _) rfl hB.r.nx hB.r.fx hB.r.sx, ⟨⟨hd.sm.f, hd.sm.n, hd.sm.e⟩, ⟨s, y', hs, hsy, h4⟩, nofun, fun _ => ⟨rfl, h2⟩, hd.nx, hd.ln⟩⟩
  · obtain ⟨rfl, hdn⟩ := hd.dn ho
    rw [ho] at hc
    refine (step_sync_over w lb rb v (.int .i64 R.syn) R.mb R.tr n R.first R.next q m c (fun w' => Bo w0 w' pb lb rb D none first l tg lt R v) fun V bV => ?_).mono ?_
    · have hV := hb.keep bV
      have hc' := hV.r.cell
      rw [ho] at hc'
      obtain ⟨u, hg⟩ := hV.j.g
      refine (lsy_over V _ (over_yes V lb _ _ hg.cell)).mono ?_
      rintro e w' ⟨rfl, rfl⟩
      exact ⟨rfl, hV, hc'⟩
    · rintro e w' ⟨rfl, w1, hB, -, rfl⟩
      exact ⟨rfl, _, _, _, _, _, _, _, _, hB, hd⟩
end Go.Proofs.Ytplcpjngpkghmaa
