/-
  The contracts of the reference's arithmetic on 256 bits: the difference.
-/
import Derived.Test.YtfcegoibelokpaaBigA
namespace Go.Proofs.Ytfcegoibelokpaa
open Go.RowKit Big

set_option maxHeartbeats 1000000 in
set_option maxRecDepth 100000 in
theorem minus_any (x y : W) (w : World) :
    Calls Try.prog 33 #[.agg (bigR x), .agg (bigR y)] w fun e w' => e = .returned (.agg (bigR (x - y))) ∧ Below w.heap.size w w' := by
  have hz := zero48
  go_enter Try.func33, Try.ntmps33
  go_wp2_with fail
  go_loopw [6, 7] (fun c iv wr => ∃ k : Nat, iv = .int .i64 k ∧ k ≤ 256 ∧ c = .bool (borrow x y k) ∧ Row wr w.heap.size (bigR x) ∧ Row wr (w.heap.size + 1) (bigR y) ∧ Row wr (w.heap.size + 1 + 1) (bigR 0) ∧ Row wr (w.heap.size + 1 + 1 + 1) (lows (x - y) k) ∧ Below w.heap.size w wr) (fun _ iv _ => 256 - (intOf iv).toNat)
  case atStart =>
    refine ⟨0, rfl, by omega, by rw [borrow_zero], ?_, ?_, ?_, ?_, ?_⟩
    · exact (((row_new w _ _ rfl).alloc _).alloc _).alloc _
    · exact ((row_new _ _ _ (by simp)).alloc _).alloc _
    · exact (row_new _ _ _ (by simp)).alloc _
    · rw [lows_zero]; exact row_new _ _ _ (by simp)
    · exact ((((Below.refl _ w).alloc (Nat.le_refl _) _).alloc (by simp) _).alloc (by simp; omega) _).alloc (by simp; omega) _
  case round =>
    obtain ⟨k, rfl, hk, rfl, r0, r1, r2, r3, hb⟩ := hrel
    by_cases hlt : k < 256
    · have c0 := r0.cell k
      have c1 := r1.cell k
      have c3 := r3.cell k
      rw [bigR_get _ _ hlt] at c0 c1
      rw [lows_get _ _ _ hlt] at c3
      have f3 := r3.frozen k
      have hki : (k : Int) < 256 := by omega
      have HS : Hid ((x - y).getLsbD k = ((x.getLsbD k != y.getLsbD k) != borrow x y k)) := diff_bit x y k hlt
      have HC : Hid (borrow x y (k + 1) = (!x.getLsbD k && y.getLsbD k || borrow x y k && (x.getLsbD k == y.getLsbD k))) := borrow_succ x y k
      have HL : Hid ((lows (x - y) k).setIfInBounds k (.bool ((x - y).getLsbD k)) = lows (x - y) (k + 1)) := lows_set (x - y) k hlt
      have HR : Hid (Row wr w.heap.size (bigR x) ∧ Row wr (w.heap.size + 1) (bigR y) ∧ Row wr (w.heap.size + 1 + 1) (bigR 0) ∧ Row wr (w.heap.size + 1 + 1 + 1) (lows (x - y) k)) := ⟨r0, r1, r2, r3⟩
      have HB : Hid (Below w.heap.size w wr) := hb
      clear r0 r1 r2 r3 hb
      generalize x.getLsbD k = p at c0 HS HC
      generalize y.getLsbD k = q at c1 HS HC
      generalize borrow x y k = r at HS HC
      generalize (x - y).getLsbD k = s at c3 HS HL
      have hs := HS.out
      subst hs
      clear hz HS
      cases p <;> cases q <;> cases r
      all_goals
        go_wp2_with fail
        go_quiet (fail)
        go_wp2_with fail
      all_goals
        refine ⟨⟨k + 1, by simp, by omega, by rw [HC.out]; rfl, ?_, ?_, ?_, ?_, ?_⟩, ?_⟩
        · exact (HR.out.1.drewN _).other _ _ (by omega)
        · exact (HR.out.2.1.drewN _).other _ _ (by omega)
        · exact (HR.out.2.2.1.drewN _).other _ _ (by omega)
        · rw [← HL.out]; exact (HR.out.2.2.2.drewN _).set k _
        · exact (below_drewN HB.out _).setCell (by simp; omega) _
        · simp only [intOf]; omega
    · have hk256 : k = 256 := by omega
      subst hk256
      rw [lows_all] at r3
      have HB : Hid (Below w.heap.size w wr) := hb
      clear r0 r1 hz hb
      go_wp2_with (first | refine wpList_load_row rfl 48 _ rfl (w.heap.size + 1 + 1 + 1) rfl 48 (bigR (x - y)) (0, 0) _ r3 Try.underlying48 rfl (size48 _) ?_ | refine wpList_store_row rfl 48 _ _ rfl (w.heap.size + 1 + 1) (bigR (x - y)) rfl rfl 48 (bigR 0) r2 (size48 _) (by rw [bigR_size, bigR_size]) (one48 _) ?_)
      refine bodyPost_ret (results_cell_row Try.results33 _ _ (w.heap.size + 1 + 1) 48 (bigR (x - y)) (0, 0) _ rfl r2.setRow Try.underlying48 rfl (size48 _)) rfl ?_
      exact ⟨rfl, below_setRow HB.out (by omega)⟩

end Go.Proofs.Ytfcegoibelokpaa
