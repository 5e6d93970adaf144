/-
  The contracts of the reference's arithmetic on 256 bits: twice as much, compared, a word's bits.
-/
import Derived.Test.YtfcegoibelokpaaBigA
namespace Go.Proofs.Ytfcegoibelokpaa
open Go.RowKit Big

set_option maxHeartbeats 1000000 in
set_option maxRecDepth 100000 in
theorem up_any (x : W) (w : World) :
    Calls Try.prog 39 #[.agg (bigR x)] w fun e w' => e = .returned (.agg (bigR (x <<< 1))) ∧ Below w.heap.size w w' := by
  have hz := zero48
  go_enter Try.func39, Try.ntmps39
  go_wp2_with fail
  go_loopw [4] (fun iv wr => ∃ k : Nat, iv = .int .i64 k ∧ 1 ≤ k ∧ k ≤ 256 ∧ Row wr w.heap.size (bigR x) ∧ Row wr (w.heap.size + 1) (bigR 0) ∧ Row wr (w.heap.size + 1 + 1) (lows (x <<< 1) k) ∧ Below w.heap.size w wr) (fun iv _ => 256 - (intOf iv).toNat)
  case atStart =>
    refine ⟨1, rfl, by omega, by omega, ?_, ?_, ?_, ?_⟩
    · exact ((row_new w _ _ rfl).alloc _).alloc _
    · exact (row_new _ _ _ (by simp)).alloc _
    · rw [← lows_set _ 0 (by omega), up_bit _ _ (by omega), lows_zero]
      have h : (bigR 0).setIfInBounds 0 (.bool (decide (1 ≤ 0) && x.getLsbD (0 - 1))) = bigR 0 := by
        refine row_ext (by rw [Array.size_setIfInBounds, bigR_size]) (bigR_size _) fun i hi => ?_
        rw [Array.getElem?_setIfInBounds, bigR_size, bigR_get _ _ hi]
        by_cases e : 0 = i
        · subst e; simp
        · rw [if_neg e]
      rw [h]
      exact row_new _ _ _ (by simp)
    · exact (((Below.refl _ w).alloc (Nat.le_refl _) _).alloc (by simp) _).alloc (by simp; omega) _
  case round =>
    obtain ⟨k, rfl, hk1, hk, r0, r1, r2, hb⟩ := hrel
    have HB : Hid (Below w.heap.size w wr) := hb
    clear hb
    by_cases hlt : k < 256
    · have c0 := r0.cell (k - 1)
      have c2 := r2.cell k
      rw [bigR_get _ _ (by omega)] at c0
      rw [lows_get _ _ _ hlt] at c2
      have f2 := r2.frozen k
      have hki : (k : Int) < 256 := by omega
      have hkj : ((k : Int) - 1).toNat = k - 1 := by omega
      have hk0 : (1 : Int) ≤ (k : Int) := by omega
      have HL : Hid ((lows (x <<< 1) k).setIfInBounds k (.bool (x.getLsbD (k - 1))) = lows (x <<< 1) (k + 1)) := by
        have := lows_set (x <<< 1) k hlt
        rw [up_bit _ _ hlt, show decide (1 ≤ k) = true from decide_eq_true hk1, Bool.true_and] at this
        exact this
      have HR : Hid (Row wr w.heap.size (bigR x) ∧ Row wr (w.heap.size + 1) (bigR 0) ∧ Row wr (w.heap.size + 1 + 1) (lows (x <<< 1) k)) := ⟨r0, r1, r2⟩
      clear r0 r1 r2 hz
      generalize x.getLsbD (k - 1) = p at c0 HL
      generalize (decide (k < k) && (x <<< 1).getLsbD k) = q at c2
      go_wp2_with fail
      refine ⟨⟨k + 1, by simp, by omega, by omega, ?_, ?_, ?_, ?_⟩, ?_⟩
      · exact HR.out.1.other _ _ (by omega)
      · exact HR.out.2.1.other _ _ (by omega)
      · rw [← HL.out]; exact HR.out.2.2.set k _
      · exact HB.out.setCell (by simp; omega) _
      · simp only [intOf]; omega
    · have hk256 : k = 256 := by omega
      subst hk256
      rw [lows_all] at r2
      clear r0 hz
      go_wp2_with (first | refine wpList_load_row rfl 48 _ rfl (w.heap.size + 1 + 1) rfl 48 (bigR (x <<< 1)) (0, 0) _ r2 Try.underlying48 rfl (size48 _) ?_ | refine wpList_store_row rfl 48 _ _ rfl (w.heap.size + 1) (bigR (x <<< 1)) rfl rfl 48 (bigR 0) r1 (size48 _) (by rw [bigR_size, bigR_size]) (one48 _) ?_)
      refine bodyPost_ret (results_cell_row Try.results39 _ _ (w.heap.size + 1) 48 (bigR (x <<< 1)) (0, 0) _ rfl r1.setRow Try.underlying48 rfl (size48 _)) rfl ?_
      exact ⟨rfl, below_setRow HB.out (by omega)⟩

set_option maxHeartbeats 1000000 in
set_option maxRecDepth 100000 in
theorem bigcmp_any (x y : W) (w : World) :
    Calls Try.prog 24 #[.agg (bigR x), .agg (bigR y)] w fun e w' => e = .returned (.int .i64 (Big.cmp x y)) ∧ Below w.heap.size w w' := by
  go_enter Try.func24, Try.ntmps24
  go_wp2_with fail
  go_loopw [5] (fun iv wr => ∃ k : Nat, iv = .int .i64 ((k : Int) - 1) ∧ k ≤ 256 ∧ alike x y k ∧ Row wr w.heap.size (bigR x) ∧ Row wr (w.heap.size + 1) (bigR y) ∧ Below w.heap.size w wr) (fun iv _ => (intOf iv + 1).toNat)
  case atStart =>
    refine ⟨256, rfl, by omega, fun i h1 h2 => by omega, ?_, ?_, ?_⟩
    · exact (row_new w _ _ rfl).alloc _
    · exact row_new _ _ _ (by simp)
    · exact ((Below.refl _ w).alloc (Nat.le_refl _) _).alloc (by simp) _
  case round =>
    obtain ⟨k, rfl, hk, hal, r0, r1, hb⟩ := hrel
    have HB : Hid (Below w.heap.size w wr) := hb
    clear hb
    by_cases h0 : k = 0
    · subst h0
      have HC : Hid (Big.cmp x y = 0) := cmp_same hal
      clear r0 r1 hal
      go_wp2_with fail
      go_ret
      exact ⟨by rw [HC.out]; rfl, HB.out⟩
    · obtain ⟨j, rfl⟩ : ∃ j, k = j + 1 := ⟨k - 1, by omega⟩
      have c0 := r0.cell j
      have c1 := r1.cell j
      rw [bigR_get _ _ (by omega)] at c0 c1
      have hji : (j : Int) < 256 := by omega
      have ej : ((j + 1 : Nat) : Int) - 1 = (j : Int) := by omega
      rw [ej]
      have HR : Hid (Row wr w.heap.size (bigR x) ∧ Row wr (w.heap.size + 1) (bigR y)) := ⟨r0, r1⟩
      have HA : Hid (alike x y (j + 1)) := hal
      clear r0 r1 hal
      cases hp : x.getLsbD j <;> cases hq : y.getLsbD j
      all_goals rw [hp] at c0
      all_goals rw [hq] at c1
      all_goals (go_wp2_with fail; go_quiet (fail); go_wp2_with fail)
      · refine ⟨⟨j, rfl, by omega, fun i h1 h2 => ?_, HR.out.1.drewN _, HR.out.2.drewN _, below_drewN HB.out _⟩, ?_⟩
        · by_cases e : i = j
          · subst e; rw [hp, hq]
          · exact HA.out i (by omega) h2
        · simp only [intOf]; omega
      · go_ret
        exact ⟨by rw [cmp_less HA.out hp hq]; rfl, below_drewN HB.out _⟩
      · go_ret
        exact ⟨by rw [cmp_more HA.out hp hq]; rfl, below_drewN HB.out _⟩
      · refine ⟨⟨j, rfl, by omega, fun i h1 h2 => ?_, HR.out.1.drewN _, HR.out.2.drewN _, below_drewN HB.out _⟩, ?_⟩
        · by_cases e : i = j
          · subst e; rw [hp, hq]
          · exact HA.out i (by omega) h2
        · simp only [intOf]; omega

end Go.Proofs.Ytfcegoibelokpaa
