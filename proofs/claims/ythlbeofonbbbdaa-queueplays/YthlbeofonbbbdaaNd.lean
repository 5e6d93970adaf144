/-
  put, swap; turn.
-/
import Derived.Test.YthlbeofonbbbdaaNc
namespace Go.Proofs.Ythlbeofonbbbdaa
open Go.RowKit Go.Maps

theorem blk_type {w : World} {b t t' n n' : Nat} {f f' : Nat → Value} (h : Blk w b t n f) (h' : Blk w b t' n' f') : t = t' := by
  unfold Blk at *
  rw [h] at h'
  have := Option.some.inj h'
  injection this
theorem blk_ne {w : World} {b b' t t' n n' : Nat} {f f' : Nat → Value} (h : Blk w b t n f) (h' : Blk w b' t' n' f') (ht : t ≠ t') : b ≠ b' := fun e => by
  subst e
  exact ht (blk_type h h')
def putW (w : World) (g x i : Nat) : World := (w.setCell ⟨g, i, none⟩ (.pointer (some ⟨x, 0, none⟩))).setCell ⟨x, 4, none⟩ (.int .i64 i)
set_option maxHeartbeats 400000 in
theorem put_raw (w : World) (hb g n c i x : Nat) (z : Value) (c2 : w.cell? ⟨hb, 2, none⟩ = some (.slice (some ⟨g, 0, none⟩) n c)) (hi : i < n) (ci : w.cell? ⟨g, i, none⟩ = some z) (fi : w.frozen? ⟨g, i, none⟩ = false) (f : Nat → Value) (hx : Blk w x 104 5 f) (hg : x ≠ g) :
    Calls Try.prog 98 #[.pointer (some ⟨hb, 0, none⟩), .pointer (some ⟨x, 0, none⟩), .int .i64 i] w fun e w' => e = .returned (.tuple #[]) ∧ w' = putW w g x i := by
  have hi' : (i : Int) < (n : Int) := by omega
  have B1 : Hid (Blk (w.setCell ⟨g, i, none⟩ (.pointer (some ⟨x, 0, none⟩))) x 104 5 f) := hx.other _ _ (fun e => hg e.symm)
  have x4 := B1.out.cell 4 (by decide)
  have f4 := B1.out.fz 4
  clear hx hg
  go_enter Try.func98, Try.ntmps98
  go_wp2_with fail
  go_end0
  exact ⟨rfl, rfl⟩
set_option maxHeartbeats 400000 in
theorem swap_raw (w : World) (hb g n c i j x y : Nat) (f : Nat → Value) (h : Nat → Value) (k : Nat → Value) (hB : Hid (Blk w hb 102 3 k)) (hk : k 2 = .slice (some ⟨g, 0, none⟩) n c) (hi : i < n) (hj : j < n) (ci : w.cell? ⟨g, i, none⟩ = some (.pointer (some ⟨x, 0, none⟩))) (cj : w.cell? ⟨g, j, none⟩ = some (.pointer (some ⟨y, 0, none⟩))) (fi : w.frozen? ⟨g, i, none⟩ = false) (fj : w.frozen? ⟨g, j, none⟩ = false)
    (hx : Hid (Blk w x 104 5 f)) (hy : Hid (Blk w y 104 5 h)) (gg : Hid (∃ cs, w.heap[g]? = some (.cells cs 95 (0, 0)))) :
    Calls Try.prog 84 #[.pointer (some ⟨hb, 0, none⟩), .int .i64 i, .int .i64 j] w fun e w' => e = .returned (.tuple #[]) ∧ ∃ m, w' = putW (putW (w.drewN m) g x j) g y i := by
  have c2 := hB.out.cell 2 (by decide)
  rw [hk] at c2
  have hi' : (i : Int) < (n : Int) := by omega
  have hj' : (j : Int) < (n : Int) := by omega
  have nx : Hid (x ≠ g) := by
    rintro rfl
    obtain ⟨cs, h1⟩ := gg.out
    have h2 := hx.out
    unfold Blk at h2
    rw [h1] at h2
    cases h2
  have ny : Hid (y ≠ g) := by
    rintro rfl
    obtain ⟨cs, h1⟩ := gg.out
    have h2 := hy.out
    unfold Blk at h2
    rw [h1] at h2
    cases h2
  have nh : Hid (hb ≠ g) := by
    rintro rfl
    obtain ⟨cs, h1⟩ := gg.out
    have h2 := hB.out
    unfold Blk at h2
    rw [h1] at h2
    cases h2
  have nhx : Hid (hb ≠ x) := blk_ne hB.out hx.out (by decide)
  have H1 : Hid (∀ m, Calls Try.prog 98 #[.pointer (some ⟨hb, 0, none⟩), .pointer (some ⟨x, 0, none⟩), .int .i64 j] (w.drewN m) fun e w' => e = .returned (.tuple #[]) ∧ w' = putW (w.drewN m) g x j) := fun m => put_raw (w.drewN m) hb g n c j x _ c2 hj cj fj f hx.out nx.out
  have H2 : Hid (∀ m, Calls Try.prog 98 #[.pointer (some ⟨hb, 0, none⟩), .pointer (some ⟨y, 0, none⟩), .int .i64 i] (putW (w.drewN m) g x j) fun e w' => e = .returned (.tuple #[]) ∧ w' = putW (putW (w.drewN m) g x j) g y i) := fun m => by
    have hB1 : Blk (putW (w.drewN m) g x j) hb 102 3 k := ((show Blk (w.drewN m) hb 102 3 k from hB.out).other _ _ (fun e => nh.out e.symm)).other _ _ (fun e => nhx.out e.symm)
    have e2 := hB1.cell 2 (by decide)
    rw [hk] at e2
    have hy1 : ∃ f', Blk (putW (w.drewN m) g x j) y 104 5 f' := by
      have b1 : Blk ((w.drewN m).setCell ⟨g, j, none⟩ (.pointer (some ⟨x, 0, none⟩))) y 104 5 h := (show Blk (w.drewN m) y 104 5 h from hy.out).other _ _ (fun e => ny.out e.symm)
      by_cases e : x = y
      · subst e
        exact ⟨_, b1.set 4 _⟩
      · exact ⟨_, b1.other _ _ e⟩
    obtain ⟨f', hy1⟩ := hy1
    obtain ⟨cs, hg⟩ := gg.out
    have g1 : (putW (w.drewN m) g x j).heap[g]? = some (.cells (cs.setIfInBounds j (.pointer (some ⟨x, 0, none⟩))) 95 (0, 0)) :=
      (Below.heap_setCell _ _ _ _ (fun e => nx.out e.symm)).trans (setB (show (w.drewN m).heap[g]? = _ from hg) _)
    have hsz : i < cs.size := by
      have := ci
      unfold World.cell? at this
      rw [hg] at this
      simp at this
      exact (Array.getElem?_eq_some_iff.1 this).1
    have hc : ∃ z, (putW (w.drewN m) g x j).cell? ⟨g, i, none⟩ = some z := by
      unfold World.cell?
      rw [g1]
      simp [hsz]
    obtain ⟨z, hz⟩ := hc
    exact put_raw _ hb g n c i y z e2 hi hz (fz g1 i) f' hy1 ny.out
  clear hB hx hy gg nx ny nh nhx
  go_enter Try.func84, Try.ntmps84
  go_upto_region 0 with fail
  go_quiet (fail)
  go_wp2_with (first | (go_at_call_of 98 (Value.pointer (some ⟨x, 0, none⟩)); refine (H1.out _).mono ?_; rintro e w1 ⟨rfl, rfl⟩) | (go_at_call_of 98 (Value.pointer (some ⟨y, 0, none⟩)); refine (H2.out _).mono ?_; rintro e w1 ⟨rfl, rfl⟩))
  go_end0
  exact ⟨rfl, _, rfl⟩
end Go.Proofs.Ythlbeofonbbbdaa
