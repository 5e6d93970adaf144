/-
  The first usage of an owned row, written.
-/
import Derived.Test.YtcgaekaollhmpaaSl
namespace Go.Proofs.Ytcgaekaollhmpaa
open Go.RowKit Go.Maps

theorem grow_set {b : Nat} {W : World} {go n c j : Nat} {u u' : U} {r : List U} {x : Value} (h : GRow 37 6 uC b W (.slice (some ⟨go, 0, none⟩) n c) (u :: r)) (hj : j < 6) (hu : uC u' = (uC u).set j x) : GRow 37 6 uC b (W.setCell ⟨go, j, none⟩ x) (.slice (some ⟨go, 0, none⟩) n c) (u' :: r) := by
  refine ⟨by rw [flat_length uC_len], ?_⟩
  rcases h.2 with ⟨e, _⟩ | ⟨g', cap, cur, e1, hge, hg, h1, h2, h3, h4⟩
  · cases e
  · have hl := h.len
    injection e1 with e2 e3 e4
    injection e2 with e5
    injection e5 with e6
    subst e6 e4
    refine .inr ⟨go, c, cur.setIfInBounds j x, by rw [hl]; rfl, hge, setB hg x, by simpa using h1, h2, by simpa using h3, ?_⟩
    rw [Array.toList_setIfInBounds, List.length_cons, List.take_set]
    rw [List.length_cons] at h4
    rw [h4, List.flatMap_cons, List.flatMap_cons, hu, List.set_append_left _ _ (by rw [uC_len]; exact hj)]
theorem grow_cells {b : Nat} {W : World} {go n c : Nat} {u : U} {r : List U} (h : GRow 37 6 uC b W (.slice (some ⟨go, 0, none⟩) n c) (u :: r)) : (W.cell? ⟨go, 0, none⟩ = some (.string ⟨⟨u.nm⟩⟩) ∧ W.cell? ⟨go, 1, none⟩ = some (.int .i64 u.wt) ∧ W.cell? ⟨go, 2, none⟩ = some (.int .i64 u.v.a) ∧ W.cell? ⟨go, 3, none⟩ = some (.int .i64 u.v.b) ∧ W.cell? ⟨go, 4, none⟩ = some (.int .i64 u.v.c) ∧ W.cell? ⟨go, 5, none⟩ = some (.int .i64 u.v.d)) ∧ (∀ j, W.frozen? ⟨go, j, none⟩ = false) ∧ b ≤ go ∧ go < W.heap.size := by
  obtain ⟨g', e, hc⟩ := h.at uC_len (i := 0) (o := u) rfl
  cases e
  simp only [Nat.zero_mul, Nat.zero_add] at hc
  refine ⟨⟨hc 0 _ rfl, hc 1 _ rfl, hc 2 _ rfl, hc 3 _ rfl, hc 4 _ rfl, hc 5 _ rfl⟩, fun j => ?_, h.ge rfl, h.lt rfl⟩
  rcases h.2 with ⟨e, _⟩ | ⟨g', cap, cur, e1, hge, hg, _⟩
  · cases e
  · injection e1 with e2
    injection e2 with e5
    injection e5 with e6
    subst e6
    exact fz hg _
/-- the vector of the first usage, written -/
theorem grow_vec {b : Nat} {W : World} {go n c : Nat} {u : U} {r : List U} {s : Vs.V} (h : GRow 37 6 uC b W (.slice (some ⟨go, 0, none⟩) n c) (u :: r)) : GRow 37 6 uC b ((((W.setCell ⟨go, 2, none⟩ (.int .i64 s.a)).setCell ⟨go, 2 + 1, none⟩ (.int .i64 s.b)).setCell ⟨go, 2 + 2, none⟩ (.int .i64 s.c)).setCell ⟨go, 2 + 3, none⟩ (.int .i64 s.d)) (.slice (some ⟨go, 0, none⟩) n c) (⟨u.nm, u.wt, s⟩ :: r) := by
  obtain ⟨un, uw, ⟨ua, ub, uc, ud⟩⟩ := u
  obtain ⟨sa, sb, sc, sd⟩ := s
  have h1 := grow_set (u' := ⟨un, uw, ⟨sa, ub, uc, ud⟩⟩) (j := 2) h (by omega) rfl
  have h2 := grow_set (u' := ⟨un, uw, ⟨sa, sb, uc, ud⟩⟩) (j := 3) h1 (by omega) rfl
  have h3 := grow_set (u' := ⟨un, uw, ⟨sa, sb, sc, ud⟩⟩) (j := 4) h2 (by omega) rfl
  exact grow_set (u' := ⟨un, uw, ⟨sa, sb, sc, sd⟩⟩) (j := 5) h3 (by omega) rfl
/-- the first usage, written whole -/
theorem grow_all {b : Nat} {W : World} {go n c : Nat} {u v : U} {r : List U} (h : GRow 37 6 uC b W (.slice (some ⟨go, 0, none⟩) n c) (u :: r)) : GRow 37 6 uC b ((((((W.setCell ⟨go, 0, none⟩ (.string ⟨⟨v.nm⟩⟩)).setCell ⟨go, 1, none⟩ (.int .i64 v.wt)).setCell ⟨go, 2, none⟩ (.int .i64 v.v.a)).setCell ⟨go, 3, none⟩ (.int .i64 v.v.b)).setCell ⟨go, 4, none⟩ (.int .i64 v.v.c)).setCell ⟨go, 5, none⟩ (.int .i64 v.v.d)) (.slice (some ⟨go, 0, none⟩) n c) (v :: r) := by
  obtain ⟨un, uw, ⟨ua, ub, uc, ud⟩⟩ := u
  obtain ⟨vn, vw, ⟨va, vb, vc, vd⟩⟩ := v
  have h1 := grow_set (u' := ⟨vn, uw, ⟨ua, ub, uc, ud⟩⟩) (j := 0) h (by omega) rfl
  have h2 := grow_set (u' := ⟨vn, vw, ⟨ua, ub, uc, ud⟩⟩) (j := 1) h1 (by omega) rfl
  have h3 := grow_set (u' := ⟨vn, vw, ⟨va, ub, uc, ud⟩⟩) (j := 2) h2 (by omega) rfl
  have h4 := grow_set (u' := ⟨vn, vw, ⟨va, vb, uc, ud⟩⟩) (j := 3) h3 (by omega) rfl
  have h5 := grow_set (u' := ⟨vn, vw, ⟨va, vb, vc, ud⟩⟩) (j := 4) h4 (by omega) rfl
  exact grow_set (u' := ⟨vn, vw, ⟨va, vb, vc, vd⟩⟩) (j := 5) h5 (by omega) rfl
theorem grow_wt {b : Nat} {W : World} {go n c : Nat} {u : U} {r : List U} {x : Int} (h : GRow 37 6 uC b W (.slice (some ⟨go, 0, none⟩) n c) (u :: r)) : GRow 37 6 uC b (W.setCell ⟨go, 1, none⟩ (.int .i64 x)) (.slice (some ⟨go, 0, none⟩) n c) (⟨u.nm, x, u.v⟩ :: r) := by
  obtain ⟨un, uw, ⟨ua, ub, uc, ud⟩⟩ := u
  exact grow_set (u' := ⟨un, x, ⟨ua, ub, uc, ud⟩⟩) (j := 1) h (by omega) rfl
end Go.Proofs.Ytcgaekaollhmpaa
