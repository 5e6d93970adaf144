/-
  The contracts of the reference's arithmetic on 256 bits: a word's bits, the product with a word.
-/
import Derived.Test.YtfcegoibelokpaaBigC
namespace Go.Proofs.Ytfcegoibelokpaa
open Go.RowKit Big

theorem bit_word (n k : Nat) (hn : n < 18446744073709551616) : (bits .and .u64 ((n : Int) / 2 ^ k) 1 == 1) = n.testBit k := by
  have e : (n : Int) / 2 ^ k = ((n / 2 ^ k : Nat) : Int) := by simp
  have h := bits_and_u64_nat (n / 2 ^ k) 1 (Nat.lt_of_le_of_lt (Nat.div_le_self _ _) hn) (by omega)
  rw [e, show (1 : Int) = ((1 : Nat) : Int) from rfl, h, Nat.testBit_eq_decide_div_mod_eq, Nat.and_one_is_mod, Bool.eq_iff_iff]
  simp
  omega
theorem bit_of (n k : Nat) (hk : k < 256) : (BitVec.ofNat 256 n).getLsbD k = n.testBit k := by
  rw [BitVec.getLsbD_ofNat]; simp [hk]

set_option maxHeartbeats 1000000 in
set_option maxRecDepth 100000 in
theorem of_any (n : Nat) (w : World) (hn : n < 18446744073709551616) :
    Calls Try.prog 25 #[.int .u64 n] w fun e w' => e = .returned (.agg (bigR (BitVec.ofNat 256 n))) ∧ Below w.heap.size w w' := by
  have hz := zero48
  go_enter Try.func25, Try.ntmps25
  go_wp2_with fail
  go_loopw [4] (fun iv wr => ∃ k : Nat, iv = .int .i64 k ∧ k ≤ 64 ∧ Row wr w.heap.size (bigR 0) ∧ Row wr (w.heap.size + 1) (lows (BitVec.ofNat 256 n) k) ∧ Below w.heap.size w wr) (fun iv _ => 64 - (intOf iv).toNat)
  case atStart =>
    refine ⟨0, rfl, by omega, ?_, ?_, ?_⟩
    · exact (row_new w _ _ rfl).alloc _
    · rw [lows_zero]; exact row_new _ _ _ (by simp)
    · exact ((Below.refl _ w).alloc (Nat.le_refl _) _).alloc (by simp) _
  case round =>
    obtain ⟨k, rfl, hk, r0, r1, hb⟩ := hrel
    have HB : Hid (Below w.heap.size w wr) := hb
    clear hb
    by_cases hlt : k < 64
    · have c1 := r1.cell k
      rw [lows_get _ _ _ (by omega)] at c1
      have f1 := r1.frozen k
      have hki : (k : Int) < 64 := by omega
      have HL : Hid ((lows (BitVec.ofNat 256 n) k).setIfInBounds k (.bool ((BitVec.ofNat 256 n).getLsbD k)) = lows (BitVec.ofNat 256 n) (k + 1)) := lows_set _ k (by omega)
      have HR : Hid (Row wr w.heap.size (bigR 0) ∧ Row wr (w.heap.size + 1) (lows (BitVec.ofNat 256 n) k)) := ⟨r0, r1⟩
      have hbit := bit_word n k hn
      rw [← bit_of n k (by omega)] at hbit
      clear r0 r1 hz
      generalize (decide (k < k) && (BitVec.ofNat 256 n).getLsbD k) = q at c1
      generalize (BitVec.ofNat 256 n).getLsbD k = s at hbit HL
      go_wp2_with fail
      refine ⟨⟨k + 1, by simp, by omega, ?_, ?_, ?_⟩, ?_⟩
      · exact HR.out.1.other _ _ (by omega)
      · rw [← HL.out]; exact HR.out.2.set k _
      · exact HB.out.setCell (by simp) _
      · simp only [intOf]; omega
    · have hk64 : k = 64 := by omega
      subst hk64
      have e64 : lows (BitVec.ofNat 256 n) 64 = bigR (BitVec.ofNat 256 n) := by
        refine row_ext (lows_size _ _) (bigR_size _) fun i h => ?_
        rw [lows_get _ _ _ h, bigR_get _ _ h]
        by_cases hi : i < 64
        · simp [hi]
        · have : (BitVec.ofNat 256 n).getLsbD i = false := by
            rw [BitVec.getLsbD_ofNat]
            have : n.testBit i = false := Nat.testBit_lt_two_pow (Nat.lt_of_lt_of_le (by omega : n < 2 ^ 64) (Nat.pow_le_pow_right (by decide) (by omega)))
            simp [this]
          simp [this]
      rw [e64] at r1
      clear hz e64
      go_wp2_with (first | refine wpList_load_row rfl 48 _ rfl (w.heap.size + 1) rfl 48 (bigR (BitVec.ofNat 256 n)) (0, 0) _ r1 Try.underlying48 rfl (size48 _) ?_ | refine wpList_store_row rfl 48 _ _ rfl w.heap.size (bigR (BitVec.ofNat 256 n)) rfl rfl 48 (bigR 0) r0 (size48 _) (by rw [bigR_size, bigR_size]) (one48 _) ?_)
      refine bodyPost_ret (results_cell_row Try.results25 _ _ w.heap.size 48 (bigR (BitVec.ofNat 256 n)) (0, 0) _ rfl r0.setRow Try.underlying48 rfl (size48 _)) rfl ?_
      exact ⟨rfl, below_setRow HB.out (Nat.le_refl _)⟩

end Go.Proofs.Ytfcegoibelokpaa
