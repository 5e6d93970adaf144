/-
  The contracts of the reference's arithmetic on 256 bits: the product with a word.
-/
import Derived.Test.YtfcegoibelokpaaBigD
namespace Go.Proofs.Ytfcegoibelokpaa
open Go.RowKit Big

theorem row_other {w : World} {g g' : Nat} {c c' : Array Value} (h : Row w g c) (hne : g ≠ g') : Row (w.setRow g' c') g c := (setRow_other w g' g _ hne).trans h

/-- x times the lowest k bits of n -/
def tm (x : W) (n k : Nat) : W := x * BitVec.ofNat 256 (n % 2 ^ k)
theorem tm_zero (x : W) (n : Nat) : tm x n 0 = 0 := by unfold tm; rw [Nat.pow_zero, Nat.mod_one]; simp
theorem tm_no (x : W) (n k : Nat) (h : n.testBit k = false) : tm x n (k + 1) = tm x n k := by
  unfold tm; rw [mod_succ, h]; simp
theorem tm_yes (x : W) (n k : Nat) (h : n.testBit k = true) : tm x n (k + 1) = tm x n k + x <<< k := by
  unfold tm
  rw [mod_succ, h]
  simp only [if_true]
  rw [BitVec.ofNat_add, BitVec.mul_add]
  congr 1
  apply BitVec.eq_of_toNat_eq
  rw [BitVec.toNat_mul, BitVec.toNat_shiftLeft, BitVec.toNat_ofNat, Nat.shiftLeft_eq, Nat.mul_mod_mod]

set_option maxHeartbeats 2000000 in
set_option maxRecDepth 100000 in
theorem times_big (x : W) (n : Nat) (w : World) (hn : n < 18446744073709551616) :
    Calls Try.prog 26 #[.agg (bigR x), .int .u64 n] w fun e w' => e = .returned (.agg (bigR (tm x n 64))) ∧ Below w.heap.size w w' := by
  have hz := zero48
  have HP : Hid (∀ (x y : W) (w : World), Calls Try.prog 31 #[.agg (bigR x), .agg (bigR y)] w fun e w' => e = .returned (.agg (bigR (x + y))) ∧ Below w.heap.size w w') := fun x y w => plus_any x y w
  have HU : Hid (∀ (x : W) (w : World), Calls Try.prog 39 #[.agg (bigR x)] w fun e w' => e = .returned (.agg (bigR (x <<< 1))) ∧ Below w.heap.size w w') := fun x w => up_any x w
  go_enter Try.func26, Try.ntmps26
  go_wp2_with fail
  go_loopw [6] (fun iv wr => ∃ k : Nat, iv = .int .i64 k ∧ k ≤ 64 ∧ Row wr w.heap.size (bigR (x <<< k)) ∧ Row wr (w.heap.size + 1) (bigR 0) ∧ Row wr (w.heap.size + 1 + 1) (bigR (tm x n k)) ∧ Below w.heap.size w wr) (fun iv _ => 64 - (intOf iv).toNat)
  case atStart =>
    refine ⟨0, rfl, by omega, ?_, ?_, ?_, ?_⟩
    · rw [BitVec.shiftLeft_zero]; exact ((row_new w _ _ rfl).alloc _).alloc _
    · exact (row_new _ _ _ (by simp)).alloc _
    · rw [tm_zero]; exact row_new _ _ _ (by simp)
    · exact (((Below.refl _ w).alloc (Nat.le_refl _) _).alloc (by simp) _).alloc (by simp; omega) _
  case round =>
    obtain ⟨k, rfl, hk, r0, r1, r2, hb⟩ := hrel
    have HB : Hid (Below w.heap.size w wr) := hb
    clear hb
    by_cases hlt : k < 64
    · have hki : (k : Int) < 64 := by omega
      have hbit := bit_word n k hn
      have hsh : Hid (x <<< k <<< 1 = x <<< (k + 1)) := (BitVec.shiftLeft_add x k 1).symm
      clear hz
      cases hs : n.testBit k
      · rw [hs] at hbit
        have hT : Hid (tm x n (k + 1) = tm x n k) := tm_no x n k hs
        clear hs
        go_upto_region 7 with fail
        go_wp2_with (first | refine wpList_load_row rfl 48 _ rfl w.heap.size rfl 48 (bigR (x <<< k)) (0, 0) _ r0 Try.underlying48 rfl (size48 _) ?_ | (go_at_call 39; refine (HU.out _ _).mono ?_))
        rintro e w1 ⟨rfl, b1⟩
        have q0 := Row.later r0 b1 (Row.lt r0)
        have q1 := Row.later r1 b1 (Row.lt r1)
        have q2 := Row.later r2 b1 (Row.lt r2)
        have y1 : Hid (Below w.heap.size w w1) := below_from HB.out b1 HB.out.size
        clear b1
        go_wp2_with (refine wpList_store_row rfl 48 _ _ rfl w.heap.size (bigR (x <<< k <<< 1)) rfl rfl 48 (bigR (x <<< k)) q0 (size48 _) (by rw [bigR_size, bigR_size]) (one48 _) ?_)
        refine ⟨⟨k + 1, by simp, by omega, ?_, ?_, ?_, ?_⟩, ?_⟩
        · rw [← hsh.out]; exact q0.setRow
        · exact row_other q1 (by omega)
        · rw [hT.out]; exact row_other q2 (by omega)
        · exact below_setRow y1.out (Nat.le_refl _)
        · simp only [intOf]; omega
      · rw [hs] at hbit
        have hT : Hid (tm x n (k + 1) = tm x n k + x <<< k) := tm_yes x n k hs
        clear hs
        go_upto_region 6 with fail
        go_wp2_with (first | refine wpList_load_row rfl 48 _ rfl (w.heap.size + 1 + 1) rfl 48 (bigR (tm x n k)) (0, 0) _ r2 Try.underlying48 rfl (size48 _) ?_ | refine wpList_load_row rfl 48 _ rfl w.heap.size rfl 48 (bigR (x <<< k)) (0, 0) _ r0 Try.underlying48 rfl (size48 _) ?_ | (go_at_call 31; refine (HP.out _ _ _).mono ?_))
        rintro e w0 ⟨rfl, b0⟩
        have p0 := Row.later r0 b0 (Row.lt r0)
        have p1 := Row.later r1 b0 (Row.lt r1)
        have p2 := Row.later r2 b0 (Row.lt r2)
        have y0 : Hid (Below w.heap.size w w0) := below_from HB.out b0 HB.out.size
        clear b0 r0 r1 r2
        go_upto_region 7 with (refine wpList_store_row rfl 48 _ _ rfl (w.heap.size + 1 + 1) (bigR (tm x n k + x <<< k)) rfl rfl 48 (bigR (tm x n k)) p2 (size48 _) (by rw [bigR_size, bigR_size]) (one48 _) ?_)
        have z0 := row_other (c' := bigR (tm x n k + x <<< k)) (g' := w.heap.size + 1 + 1) p0 (by omega)
        have z1 := row_other (c' := bigR (tm x n k + x <<< k)) (g' := w.heap.size + 1 + 1) p1 (by omega)
        have z2 := Row.setRow (c' := bigR (tm x n k + x <<< k)) p2
        have yz : Hid (Below w.heap.size w (w0.setRow (w.heap.size + 1 + 1) (bigR (tm x n k + x <<< k)))) := below_setRow y0.out (by omega)
        clear p0 p1 p2 y0
        generalize w0.setRow (w.heap.size + 1 + 1) (bigR (tm x n k + x <<< k)) = w2 at *
        go_wp2_with (first | refine wpList_load_row rfl 48 _ rfl w.heap.size rfl 48 (bigR (x <<< k)) (0, 0) _ z0 Try.underlying48 rfl (size48 _) ?_ | (go_at_call 39; refine (HU.out _ _).mono ?_))
        rintro e w1 ⟨rfl, b1⟩
        have q0 := Row.later z0 b1 (Row.lt z0)
        have q1 := Row.later z1 b1 (Row.lt z1)
        have q2 := Row.later z2 b1 (Row.lt z2)
        have y1 : Hid (Below w.heap.size w w1) := below_from yz.out b1 yz.out.size
        clear b1
        go_wp2_with (refine wpList_store_row rfl 48 _ _ rfl w.heap.size (bigR (x <<< k <<< 1)) rfl rfl 48 (bigR (x <<< k)) q0 (size48 _) (by rw [bigR_size, bigR_size]) (one48 _) ?_)
        refine ⟨⟨k + 1, by simp, by omega, ?_, ?_, ?_, ?_⟩, ?_⟩
        · rw [← hsh.out]; exact q0.setRow
        · exact row_other q1 (by omega)
        · rw [hT.out]; exact row_other q2 (by omega)
        · exact below_setRow y1.out (Nat.le_refl _)
        · simp only [intOf]; omega
    · have hk64 : k = 64 := by omega
      subst hk64
      clear hz r0
      go_wp2_with (first | refine wpList_load_row rfl 48 _ rfl (w.heap.size + 1 + 1) rfl 48 (bigR (tm x n 64)) (0, 0) _ r2 Try.underlying48 rfl (size48 _) ?_ | refine wpList_store_row rfl 48 _ _ rfl (w.heap.size + 1) (bigR (tm x n 64)) rfl rfl 48 (bigR 0) r1 (size48 _) (by rw [bigR_size, bigR_size]) (one48 _) ?_)
      refine bodyPost_ret (results_cell_row Try.results26 _ _ (w.heap.size + 1) 48 (bigR (tm x n 64)) (0, 0) _ rfl r1.setRow Try.underlying48 rfl (size48 _)) rfl ?_
      exact ⟨rfl, below_setRow HB.out (by omega)⟩

end Go.Proofs.Ytfcegoibelokpaa
