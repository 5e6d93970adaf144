/-
  The law FillNow.
-/
import Derived.Test.YtjgibngnjlciaaaGreatOpn
namespace Go.Proofs.YtjgibngnjlciaaaGreat
open Go.RowKit Go.Maps

theorem chk_four (T : List V) (S : List Sl) : chk T S = 4 ∨ chk T S = 5 ∨ chk T S = 2 ∨ chk T S = 0 := by
  unfold chk
  repeat' split
  all_goals simp
theorem movR_not6 (f : V → V → V × Nat) (T : List V) (N : List (List UInt8)) (S : List Sl) : (movR f T N S).1 ≠ 6 := by
  have h := chk_four T S
  unfold movR
  split
  · split
    · split
      · split <;> exact nofun
      · exact nofun
    · exact nofun
  · show chk T S ≠ 6
    omega
theorem gvG_not6 : ∀ (L : List Vi) (S : List Sl), (gvG L S).1 ≠ 6
  | [], S => by show (0 : Nat) ≠ 6; decide
  | v :: r, S => by
    unfold gvG
    split
    · exact gvG_not6 r _
    · exact movR_not6 _ _ _ _
/-- what Start's answer is, and Fit's -/
theorem now_math (now : Int) (T : List V) (R : List Vi) (S : List Sl) : ((startR now T R S).2.2 ≠ 0 → (startR now T R S).1 = 0 ∧ (startR now T R S).2.1 = [] ∧ ((fitR T S).1 = 0 → (startR now T R S).2.2 ≠ 6)) ∧ ((startR now T R S).2.2 = 0 → wthn now R = true ∧ Gv R S ∧ allS S = true ∧ Nod S ∧ (gvG R S).1 = 0 ∧ staN now T R S = some (startR now T R S).1 ∧ (startR now T R S).2.1 = (fitR T (stA now R S (startR now T R S).1)).2 ∧ ((fitR T S).1 = 0 ∨ (fitR T S).1 = 6)) := by
  by_cases hw : wthn now R = true
  · by_cases hf : (fitR T S).1 = 0 ∨ (fitR T S).1 = 6
    · by_cases hg : (gvG R S).1 = 0
      · cases hs : staN now T R S with
        | none =>
          rw [startR_none hw hf hg hs]
          refine ⟨fun _ => ⟨rfl, rfl, fun h0 => ?_⟩, fun h => absurd h (by decide)⟩
          exact absurd (by unfold fitT; rw [stA_now]; exact h0) (staN_none.1 hs now (cand_mem.2 (.inl rfl)))
        | some t =>
          rw [startR_some hw hf hg hs]
          obtain ⟨k1, k2, k3, k4⟩ := fit_chk hf
          exact ⟨fun h => absurd rfl h, fun _ => ⟨hw, all_give R S k2 hg, k2, k3, hg, rfl, rfl, hf⟩⟩
      · rw [startR_give hw hf hg]
        exact ⟨fun _ => ⟨rfl, rfl, fun _ => gvG_not6 R S⟩, fun h => absurd h hg⟩
    · rw [startR_fit hw hf]
      exact ⟨fun _ => ⟨rfl, rfl, fun h => absurd (.inl h) hf⟩, fun h => absurd (.inl h) hf⟩
  · rw [startR_range (Bool.eq_false_iff.2 hw)]
    exact ⟨fun _ => ⟨rfl, rfl, fun _ => by decide⟩, fun h => absurd h (by decide)⟩
theorem start_len (now : Int) (T : List V) (R : List Vi) (S : List Sl) : (startR now T R S).2.1.length ≤ T.length := by
  have h := now_math now T R S
  by_cases h0 : (startR now T R S).2.2 = 0
  · rw [(h.2 h0).2.2.2.2.2.2.1]
    rcases fitR_len T (stA now R S (startR now T R S).1) with ⟨_, q, _⟩ | ⟨_, q⟩
    · omega
    · rw [q]; exact Nat.zero_le _
  · rw [(h.1 h0).2.1]; exact Nat.zero_le _
theorem now_zero {now : Int} {T : List V} {R : List Vi} {S : List Sl} (h : (startR now T R S).2.2 = 0) (ht : (startR now T R S).1 = now) : (fitR T S).1 = 0 ∧ (startR now T R S).2.1 = (fitR T S).2 := by
  obtain ⟨_, _, _, _, _, h1, h2, _⟩ := (now_math now T R S).2 h
  rw [ht, stA_now] at h2
  obtain ⟨_, h3, _⟩ := staN_some.1 h1
  rw [ht] at h3
  unfold fitT at h3
  rw [stA_now] at h3
  exact ⟨h3, h2⟩
theorem now_later {now : Int} {T : List V} {R : List Vi} {S : List Sl} (h : (startR now T R S).2.2 = 0) (ht : (startR now T R S).1 ≠ now) : now < (startR now T R S).1 ∧ (fitR T S).1 = 6 ∧ R.any (fun r => decide (en now r = (startR now T R S).1)) = true := by
  obtain ⟨_, _, _, _, _, h1, _, h3⟩ := (now_math now T R S).2 h
  obtain ⟨a, b, c⟩ := staN_some.1 h1
  rcases cand_mem.1 a with q | ⟨r, hr, q⟩
  · exact absurd q ht
  · refine ⟨by rw [← q]; exact en_gt now r, ?_, List.any_eq_true.2 ⟨r, hr, by simpa using q⟩⟩
    rcases h3 with z | z
    · have := c now (cand_mem.2 (.inl rfl)) (by unfold fitT; rw [stA_now]; exact z)
      have := en_gt now r
      omega
    · exact z
end Go.Proofs.YtjgibngnjlciaaaGreat
