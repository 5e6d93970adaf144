/-
  A log's file behind a restart, with whatever stands beside it; where the law's trim trims.
-/
import Derived.Test.YtplcpjngpkghmaaKl
namespace Go.Proofs.Ytplcpjngpkghmaa
open Go.RowKit Go.Maps

theorem rst_one (n c : List UInt8) (k : Nat) (ch : List UInt8) : ∃ c' k', rst [⟨n, c, k⟩] ch = [⟨n, c', k'⟩] := by
  unfold rst
  split
  · exact ⟨_, _, rfl⟩
  · exact ⟨_, _, rfl⟩
theorem rst_logY (C : List UInt8) (sy : Nat) (y : OB) (ch : List UInt8) : ∃ x y', rst (fsN none (some (C, sy)) y) ch = fsN none (some (if sy < C.length then crashB C sy x else C, if sy < C.length then (crashB C sy x).length else sy)) y' := by
  rcases y with _ | ⟨c, k⟩
  · obtain ⟨x, e⟩ := rst_log C sy ch
    exact ⟨x, none, e⟩
  · by_cases h : sy < C.length
    · obtain ⟨c', k', e⟩ := rst_one nmS c k ch.tail
      refine ⟨ch.headD 0, some (c', k'), ?_⟩
      show rst (⟨nmL, C, sy⟩ :: [⟨nmS, c, k⟩]) ch = _
      rw [rst, if_pos h, e]
      simp only [if_pos h]
      rfl
    · obtain ⟨c', k', e⟩ := rst_one nmS c k ch
      refine ⟨0, some (c', k'), ?_⟩
      show rst (⟨nmL, C, sy⟩ :: [⟨nmS, c, k⟩]) ch = _
      rw [rst, if_neg h, e]
      simp only [if_neg h]
      rfl
/-- the log's file behind a restart -/
theorem restart_logY {D : DK} {y : OB} (first s sy : Nat) (recs : List (List UInt8)) (h80 : ∀ p ∈ recs, p.length ≤ 4080) (hs : s ≤ recs.length) (hsy : sy = (encB first (recs.take s)).length) (h : D.fs = fsN none (some (encB first recs, sy)) y) (ch : List UInt8) :
    ∃ k t sy' y', s ≤ k ∧ k ≤ recs.length ∧ (restartD D ch).fs = fsN none (some (encB first (recs.take k) ++ t, sy')) y' ∧ Torn t ∧ (encB first (recs.take k) ++ t).length ≤ (encB first recs).length := by
  obtain ⟨x, y', e⟩ := rst_logY (encB first recs) sy y ch
  have e2 : (restartD D ch).fs = rst D.fs ch := rfl
  rw [h, e] at e2
  by_cases hlt : sy < (encB first recs).length
  · simp only [if_pos hlt] at e2
    obtain ⟨k, t, h1, h2, h3, h4⟩ := crash_log first s recs h80 x
    rw [← hsy] at h3
    have hl := crashB_length (encB first recs) sy x (by omega)
    have hkl := kp_le (encB first recs) sy x (by omega)
    rw [h3] at e2 hl
    exact ⟨k, t, _, y', h1, by omega, e2, h4, by omega⟩
  · simp only [if_neg hlt] at e2
    refine ⟨recs.length, [], sy, y', hs, Nat.le_refl _, ?_, torn_nil, ?_⟩
    · rw [List.take_length, List.append_nil]; exact e2
    · rw [List.take_length, List.append_nil]; exact Nat.le_refl _
/-- the facts that the law's trim asks for -/
theorem trim_facts (n : Int) (first m : Nat) (h : first + m < 4611686018427387904) :
    ¬ ((m : Int) + 1) = 0 ∧ IntKind.u64.wrap n = n % 18446744073709551616 ∧ IntKind.i64.wrap (((first : Int) + m) - first) = (m : Int) + 1 - 1 ∧ IntKind.i64.wrap ((m : Int) + 1) = (m : Int) + 1 ∧ IntKind.u64.wrap ((m : Int) + 1) = (m : Int) + 1 ∧ (n % 18446744073709551616).tmod ((m : Int) + 1) = (trK n m : Int) ∧ wrap64 (trK n m : Int) = (trK n m : Int) ∧ wrap64 ((first : Int) + trK n m) = (first : Int) + trK n m := by
  have hk := trK_le n m
  refine ⟨by omega, by rw [IntKind.wrap_u64], by rw [IntKind.wrap_i64]; omega, by rw [IntKind.wrap_i64]; omega, by rw [IntKind.wrap_u64]; omega, trK_rem n m, ?_, ?_⟩
  · unfold wrap64; omega
  · unfold wrap64; omega
end Go.Proofs.Ytplcpjngpkghmaa
