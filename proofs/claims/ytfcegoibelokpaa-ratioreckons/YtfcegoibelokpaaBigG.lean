/-
  The contracts of the reference's long division on 256 bits.
-/
import Derived.Test.YtfcegoibelokpaaBigE
import Derived.Test.YtfcegoibelokpaaBigB
import Derived.Test.YtfcegoibelokpaaBigM
namespace Go.Proofs.Ytfcegoibelokpaa
open Go.RowKit Big

/-- the rest doubled, with the next bit in its lowest place -/
theorem low_set (x : W) (p : Bool) : (bigR (x <<< 1)).setIfInBounds 0 (.bool p) = bigR (BitVec.ofNat 256 (2 * x.toNat + (if p then 1 else 0))) := by
  refine row_ext (by rw [Array.size_setIfInBounds, bigR_size]) (bigR_size _) fun i hi => ?_
  rw [Array.getElem?_setIfInBounds, bigR_size, bigR_get _ _ hi, bigR_get _ _ hi, up_bit _ _ hi, BitVec.getLsbD_ofNat]
  have e : decide (i < 256) = true := decide_eq_true hi
  rw [e, Bool.true_and]
  rcases Nat.eq_zero_or_pos i with rfl | h0
  · simp
    cases p <;> simp
  · rw [if_neg (by omega), show decide (1 ≤ i) = true from decide_eq_true h0, Bool.true_and]
    obtain ⟨j, rfl⟩ : ∃ j, i = j + 1 := ⟨i - 1, by omega⟩
    rw [Nat.testBit_succ]
    have : (2 * x.toNat + (if p then 1 else 0)) / 2 = x.toNat := by cases p <;> simp <;> omega
    rw [this]
    rfl

theorem high_none {a : W} (h : a.toNat < 18446744073709551616) {i : Nat} (hi : 64 ≤ i) : a.getLsbD i = false :=
  Nat.testBit_lt_two_pow (Nat.lt_of_lt_of_le (by omega : a.toNat < 2 ^ 64) (Nat.pow_le_pow_right (by decide) hi))

set_option maxHeartbeats 1000000 in
set_option maxRecDepth 100000 in
theorem word_ok (a : W) (w : World) (h : a.toNat < 18446744073709551616) :
    Calls Try.prog 44 #[.agg (bigR a)] w fun e w' => e = .returned (.tuple #[.int .u64 a.toNat, .bool true]) ∧ Below w.heap.size w w' := by
  go_enter Try.func44, Try.ntmps44
  go_wp2_with fail
  go_loopw [4, 5] (fun nv iv wr => ∃ k n : Nat, iv = .int .i64 ((k : Int) - 1) ∧ nv = .int .u64 n ∧ k ≤ 256 ∧ n = a.toNat / 2 ^ k ∧ Row wr w.heap.size (bigR a) ∧ Below w.heap.size w wr) (fun _ iv _ => (intOf iv + 1).toNat)
  case atStart =>
    refine ⟨256, 0, rfl, rfl, by omega, (Nat.div_eq_of_lt a.isLt).symm, row_new w _ _ rfl, (Below.refl _ w).alloc (Nat.le_refl _) _⟩
  case round =>
    obtain ⟨k, n, rfl, rfl, hk, hn, r0, hb⟩ := hrel
    have HB : Hid (Below w.heap.size w wr) := hb
    have HN : Hid (n = a.toNat / 2 ^ k) := hn
    clear hb hn
    by_cases h0 : k = 0
    · subst h0
      have HN' : Hid (n = a.toNat) := by have := HN.out; rwa [Nat.pow_zero, Nat.div_one] at this
      clear r0 HN
      go_wp2_with fail
      go_returns
      exact ⟨by rw [← HN'.out]; rfl, HB.out⟩
    · obtain ⟨j, rfl⟩ : ∃ j, k = j + 1 := ⟨k - 1, by omega⟩
      have c0 := r0.cell j
      rw [bigR_get _ _ (by omega)] at c0
      have hji : (j : Int) < 256 := by omega
      have ej : ((j + 1 : Nat) : Int) - 1 = (j : Int) := by omega
      rw [ej]
      have hst := div_step a.toNat j
      rw [show a.toNat.testBit j = a.getLsbD j from rfl, ← HN.out] at hst
      have HR : Hid (Row wr w.heap.size (bigR a)) := r0
      clear r0 HN
      by_cases h64 : j < 64
      · have h64' : (j : Int) < 64 := by omega
        have h64'' : decide ((64 : Int) ≤ (j : Int)) = false := decide_eq_false (by omega)
        have hlt : a.toNat / 2 ^ j < 18446744073709551616 := Nat.lt_of_le_of_lt (Nat.div_le_self _ _) h
        cases hp : a.getLsbD j
        all_goals rw [hp] at c0 hst
        · have hst' : a.toNat / 2 ^ j = 2 * n := by simpa using hst
          have e1 : IntKind.u64.wrap (2 * (n : Int)) = ((2 * n : Nat) : Int) := by rw [IntKind.wrap_u64]; omega
          obtain ⟨m, hm⟩ : ∃ m, m = 2 * n := ⟨_, rfl⟩
          rw [← hm] at e1 hst'
          have HM : Hid (m = a.toNat / 2 ^ j) := hst'.symm
          clear hm hst hst' hlt
          go_wp2_with fail
          refine ⟨⟨j, m, rfl, rfl, by omega, HM.out, HR.out, HB.out⟩, ?_⟩
          simp only [intOf]; omega
        · have hst' : a.toNat / 2 ^ j = 2 * n + 1 := by simpa using hst
          have e1 : IntKind.u64.wrap (2 * (n : Int)) = ((2 * n : Nat) : Int) := by rw [IntKind.wrap_u64]; omega
          have e2 : IntKind.u64.wrap (((2 * n : Nat) : Int) + 1) = ((2 * n + 1 : Nat) : Int) := by rw [IntKind.wrap_u64]; omega
          obtain ⟨m, hm⟩ : ∃ m, m = 2 * n := ⟨_, rfl⟩
          obtain ⟨m', hm'⟩ : ∃ m', m' = m + 1 := ⟨_, rfl⟩
          rw [← hm] at e1 e2 hst'
          rw [← hm'] at e2 hst'
          have HM : Hid (m' = a.toNat / 2 ^ j) := hst'.symm
          clear hm hm' hst hst' hlt
          go_wp2_with fail
          refine ⟨⟨j, m', rfl, rfl, by omega, HM.out, HR.out, HB.out⟩, ?_⟩
          simp only [intOf]; omega
      · have hp : a.getLsbD j = false := high_none h (by omega)
        rw [hp] at c0 hst
        have h64' : decide ((j : Int) < 64) = false := decide_eq_false (by omega)
        have hn0 : n = 0 := by
          have : a.toNat / 2 ^ j = 0 := Nat.div_eq_of_lt (Nat.lt_of_lt_of_le (by omega : a.toNat < 2 ^ 64) (Nat.pow_le_pow_right (by decide) (by omega)))
          rw [this] at hst
          simp at hst
          omega
        have HM : Hid (0 = a.toNat / 2 ^ j) := (Nat.div_eq_of_lt (Nat.lt_of_lt_of_le (by omega : a.toNat < 2 ^ 64) (Nat.pow_le_pow_right (by decide) (by omega)))).symm
        subst hn0
        clear hst
        go_wp2_with fail
        refine ⟨⟨j, 0, rfl, rfl, by omega, HM.out, HR.out, HB.out⟩, ?_⟩
        simp only [intOf]; omega

set_option maxHeartbeats 1000000 in
set_option maxRecDepth 100000 in
theorem word_no (a : W) (w : World) (h : 18446744073709551616 ≤ a.toNat) :
    Calls Try.prog 44 #[.agg (bigR a)] w fun e w' => e = .returned (.tuple #[.int .u64 0, .bool false]) ∧ Below w.heap.size w w' := by
  have HX : Hid (∀ k, k ≤ 64 → (∀ i, k ≤ i → i < 256 → a.getLsbD i = false) → False) := fun k hk hi => by
    have := Nat.lt_pow_two_of_testBit a.toNat (n := 64) (fun i h1 => by
      rcases Nat.lt_or_ge i 256 with h2 | h2
      · exact hi i (by omega) h2
      · exact Nat.testBit_lt_two_pow (Nat.lt_of_lt_of_le a.isLt (Nat.pow_le_pow_right (by decide) h2)))
    omega
  clear h
  go_enter Try.func44, Try.ntmps44
  go_wp2_with fail
  go_loopw [4, 5] (fun nv iv wr => ∃ k : Nat, iv = .int .i64 ((k : Int) - 1) ∧ nv = .int .u64 0 ∧ k ≤ 256 ∧ (∀ i, k ≤ i → i < 256 → a.getLsbD i = false) ∧ Row wr w.heap.size (bigR a) ∧ Below w.heap.size w wr) (fun _ iv _ => (intOf iv + 1).toNat)
  case atStart =>
    refine ⟨256, rfl, rfl, by omega, fun i h1 h2 => by omega, row_new w _ _ rfl, (Below.refl _ w).alloc (Nat.le_refl _) _⟩
  case round =>
    obtain ⟨k, rfl, rfl, hk, hz, r0, hb⟩ := hrel
    have HB : Hid (Below w.heap.size w wr) := hb
    have hk64 : 64 < k := Nat.lt_of_not_le fun h => HX.out k h hz
    have HZ : Hid (∀ i, k ≤ i → i < 256 → a.getLsbD i = false) := hz
    clear hb hz
    obtain ⟨j, rfl⟩ : ∃ j, k = j + 1 := ⟨k - 1, by omega⟩
    have c0 := r0.cell j
    rw [bigR_get _ _ (by omega)] at c0
    have hji : (j : Int) < 256 := by omega
    have ej : ((j + 1 : Nat) : Int) - 1 = (j : Int) := by omega
    rw [ej]
    have HR : Hid (Row wr w.heap.size (bigR a)) := r0
    clear r0
    have h64 : (64 : Int) ≤ (j : Int) := by omega
    have h64' : decide ((j : Int) < 64) = false := decide_eq_false (by omega)
    cases hp : a.getLsbD j
    all_goals rw [hp] at c0
    · go_wp2_with fail
      refine ⟨⟨j, rfl, rfl, by omega, fun i h1 h2 => ?_, HR.out, HB.out⟩, ?_⟩
      · by_cases e : i = j
        · subst e; exact hp
        · exact HZ.out i (by omega) h2
      · simp only [intOf]; omega
    · go_wp2_with fail
      go_returns
      exact ⟨rfl, HB.out⟩

end Go.Proofs.Ytfcegoibelokpaa
