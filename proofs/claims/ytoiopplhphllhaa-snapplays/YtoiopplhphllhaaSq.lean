/-
  The reference's Fits.
-/
import Derived.Test.YtoiopplhphllhaaSp
namespace Go.Proofs.Ytoiopplhphllhaa
open Go.RowKit Go.Maps

set_option maxHeartbeats 400000 in
theorem fits_num (n : Int) (h : n < 0 ∨ 0 ≤ n ∧ 4611686018427387904 < n) (v : Value) (w : World) : Calls Try.prog 12 #[.int .i64 n, v] w fun e w' => e = .returned (.int .i64 2) ∧ w' = w := by
  rcases h with h | ⟨h0, h⟩
  all_goals go_enter Try.func12, Try.ntmps12
  all_goals go_wp2_with fail
  all_goals go_ret
  all_goals exact ⟨rfl, rfl⟩
theorem long_take {l : List (List UInt8)} (k : Nat) (h : longP (l.take k) = false) : sumL (l.take k) ≤ 4096 * k := by
  have := sum_le h
  rw [List.length_take] at this
  exact Nat.le_trans this (Nat.mul_le_mul_left _ (Nat.min_le_left _ _))
set_option maxHeartbeats 1000000 in
theorem fits_walk (n : Int) (h0 : 0 ≤ n) (h1 : n ≤ 4611686018427387904) (l : List RC) (q : Option Addr) (c m : Nat) (w : World) (hl : Hid (l.length = m)) (hm : m ≤ 140737488355328) (hP : Hid (Pcs w q l)) (r0 : Int) (hr : Hid (r0 = if longP (l.map RC.b) = true then 1 else if manyP (l.map RC.b) = true then 6 else 0)) :
    Calls Try.prog 12 #[.int .i64 n, .slice q m c] w fun e w' => e = .returned (.int .i64 r0) ∧ w' = w := by
  go_enter Try.func12, Try.ntmps12
  go_wp2_with fail
  go_loopw [5, 6] (fun s i wr => ∃ k t : Nat, k ≤ m ∧ i = .int .i64 k ∧ s = .int .i64 t ∧ t = sumL ((l.map RC.b).take k) ∧ longP ((l.map RC.b).take k) = false ∧ wr = w) (fun _ i _ => m - (intOf i).toNat)
  case atStart => exact ⟨0, 0, Nat.zero_le _, rfl, rfl, rfl, rfl, rfl⟩
  case round =>
    obtain ⟨k, t, hk, rfl, rfl, ht, hq, rfl⟩ := hrel
    have hts : t ≤ 4096 * k := by rw [ht]; exact long_take k hq
    have hts2 : t ≤ 4096 * 140737488355328 := Nat.le_trans hts (Nat.mul_le_mul_left _ (by omega))
    clear hts
    by_cases hlt : k < m
    · obtain ⟨r, g, o, hr0, rfl, hc⟩ := hP.out.at (k := k) (by have := hl.out; omega)
      have hr1 : (l.map RC.b)[k]? = some r.b := by rw [List.getElem?_map, hr0]; rfl
      have hi : (k : Int) < (m : Int) := by omega
      by_cases hp : r.b.length ≤ 4096
      · have HN : Hid (longP ((l.map RC.b).take (k + 1)) = false) := any_take hr1 hq hp
        have hp1 : (r.b.length : Int) ≤ 4096 := by omega
        have HS : Hid (t + r.b.length = sumL ((l.map RC.b).take (k + 1))) := by
          refine (?_ : t + r.b.length = sumL ((l.map RC.b).take (k + 1)))
          rw [sum_snoc hr1, ht]
        clear hr0 hr1 hq ht
        go_wp2_with fail
        refine ⟨⟨k + 1, t + r.b.length, by omega, by go_num, by go_num, HS.out, HN.out, trivial⟩, ?_⟩
        simp [intOf]; omega
      · have HN : Hid (longP (l.map RC.b) = true) := any_yes hr1 (by omega)
        have hp1 : 4096 < (r.b.length : Int) := by omega
        clear hr0 hr1 hq ht
        go_wp2_with fail
        go_ret
        exact ⟨by rw [hr.out, if_pos HN.out]; rfl, rfl⟩
    · have hi : ¬ (k : Int) < (m : Int) := by omega
      have HE : Hid (longP (l.map RC.b) = false ∧ t = sumL (l.map RC.b)) := by
        rw [List.take_of_length_le (by rw [List.length_map]; have := hl.out; omega)] at hq ht
        exact ⟨hq, ht⟩
      have HL : Hid ((l.map RC.b).length = m) := by
        refine (?_ : (l.map RC.b).length = m)
        rw [List.length_map]; exact hl.out
      clear hq ht
      by_cases h2 : 524288 < (t : Int)
      · go_wp2_with fail
        go_ret
        refine ⟨?_, rfl⟩
        have h3 : manyP (l.map RC.b) = true := by
          unfold manyP
          rw [← HE.out.2, decide_eq_true (show 524288 < t by omega), Bool.or_true]
        rw [hr.out, if_neg (by simp [HE.out.1]), if_pos h3]
        rfl
      · have h2' : (t : Int) ≤ 524288 := by omega
        by_cases h3 : 16384 < (m : Int)
        · go_wp2_with fail
          go_ret
          refine ⟨?_, rfl⟩
          have h3 : manyP (l.map RC.b) = true := by
            unfold manyP
            rw [HL.out, decide_eq_true (show 16384 < m by omega), Bool.true_or]
          rw [hr.out, if_neg (by simp [HE.out.1]), if_pos h3]
          rfl
        · have h3' : (m : Int) ≤ 16384 := by omega
          go_wp2_with fail
          go_ret
          refine ⟨?_, rfl⟩
          have h3 : manyP (l.map RC.b) = false := by
            unfold manyP
            rw [HL.out, ← HE.out.2, decide_eq_false (show ¬ 16384 < m by omega), decide_eq_false (show ¬ 524288 < t by omega)]
            rfl
          rw [hr.out, if_neg (by simp [HE.out.1]), if_neg (by simp [h3])]
          rfl
theorem fits_any (n : Int) (l : List RC) (q : Option Addr) (c m : Nat) (w : World) (hl : l.length = m) (hm : m ≤ 140737488355328) (hP : Pcs w q l) :
    Calls Try.prog 12 #[.int .i64 n, .slice q m c] w fun e w' => e = .returned (.int .i64 (fitE n (l.map RC.b))) ∧ w' = w := by
  unfold fitE okNum
  by_cases h0 : 0 ≤ n
  · by_cases h1 : n ≤ 4611686018427387904
    · rw [decide_eq_true h0, decide_eq_true h1]
      exact fits_walk n h0 h1 l q c m w hl hm hP _ rfl
    · rw [decide_eq_true h0, decide_eq_false h1]
      exact fits_num n (.inr ⟨h0, by omega⟩) _ w
  · rw [decide_eq_false h0]
    exact fits_num n (.inl (by omega)) _ w
end Go.Proofs.Ytoiopplhphllhaa
