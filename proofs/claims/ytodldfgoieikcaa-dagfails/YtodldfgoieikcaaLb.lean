/-
  DagCycles' law.
-/
import Derived.Test.YtodldfgoieikcaaLa
namespace Go.Proofs.Ytodldfgoieikcaa
open Go.RowKit Go.Maps

theorem wr_nat (x : Nat) (h : x ≤ 1000) : wrap64 (x : Int) = (x : Int) := by unfold wrap64; omega
set_option maxHeartbeats 2000000 in
set_option maxRecDepth 100000 in
theorem cycles_law (n t : Nat) (hn : n < 256) (ht : t < 256) (w : World) : Calls Try.prog 7 #[.int .u8 n, .int .u8 t] w fun e w' => e = .returned (.bool true) ∧ Below w.heap.size w w' := by
  have HA : Hid (Calls Try.prog 9 #[] w fun e w' => e = .returned (.bool true) ∧ Hid (Calls Try.prog 11 #[] w' fun e w'' => e = .returned (.pointer (some ⟨w'.heap.size, 0, none⟩)) ∧ Hid (PG w w'' w'.heap.size g0 ∧ w''.heap.size = w'.heap.size + 1))) := by
    refine (awake_any w w (Below.refl _ _)).mono ?_
    rintro e w1 ⟨rfl, b1⟩
    exact ⟨rfl, pg_new w w1 b1.out⟩
  obtain ⟨m, hm⟩ : ∃ m : Nat, m = n % 60 := ⟨_, rfl⟩
  have hm1 : m < 60 := by omega
  have hq : (n : Int).tmod 60 = (m : Int) := by rw [Int.tmod_eq_emod_of_nonneg (by omega)]; omega
  have hq2 : (n : Int) % 60 = (m : Int) := by omega
  obtain ⟨k, hk⟩ : ∃ k : Nat, k = m + 1 := ⟨_, rfl⟩
  have hk1 : (1 : Int) + (m : Int) = (k : Int) := by omega
  have hk2 : IntKind.i64.wrap ((1 : Int) + (m : Int)) = (k : Int) := by rw [IntKind.wrap_i64]; omega
  have HK : Hid (0 < k ∧ k ≤ 60 ∧ t < 256) := ⟨by omega, by omega, ht⟩
  clear hm hk hn
  go_enter Try.func7, Try.ntmps7
  go_upto_region 5 with (first
    | (go_at_call 9; refine HA.out.mono ?_; rintro e w1 ⟨rfl, h1⟩)
    | (go_at_call 11; refine h1.out.mono ?_; rintro e w2 ⟨rfl, h2⟩))
  have HP : Hid (PG w w2 w1.heap.size (ringG k s0) ∧ Rng k t 0 s0) := ⟨by rw [ring_zero]; exact h2.out.1, Rng.start k t⟩
  generalize w1.heap.size = gb at *
  clear h1 h2 HA hq hq2 hk1 hk2 hm1
  go_wp2_with fail
  go_loopw [7] (fun t7 wr => ∃ (i : Nat) (T : Nat → Bool), t7 = .int .i64 i ∧ i ≤ 60 ∧ Hid ((i < k ∧ PG w wr gb (ringG k T) ∧ Rng k t i T) ∨ (i = k ∧ Below w.heap.size w wr))) (fun t7 _ => k - (intOf t7).toNat)
  case atStart => exact ⟨0, s0, rfl, by omega, .inl ⟨HK.out.1, HP.out⟩⟩
  case round =>
    clear HP
    obtain ⟨i, T, rfl, hi60, HI0⟩ := hrel
    have hk60 : (k : Int) ≤ 60 := by have := HK.out; omega
    by_cases hi : i < k
    · have HI : Hid (i ≤ k ∧ PG w wr gb (ringG k T) ∧ Rng k t i T) := by
        rcases HI0.out with h | h
        · exact ⟨by omega, h.2⟩
        · omega
      clear HI0
      have hi' : (i : Int) < (k : Int) := by omega
      have hi'' : ¬ (k : Int) = 0 := by omega
      obtain ⟨A, hA⟩ : ∃ A : Nat, A = i * 7 := ⟨_, rfl⟩
      obtain ⟨B, hB⟩ : ∃ B : Nat, B = A + t := ⟨_, rfl⟩
      obtain ⟨C, hC⟩ : ∃ C : Nat, C = B % k := ⟨_, rfl⟩
      obtain ⟨D, hD⟩ : ∃ D : Nat, D = i + t := ⟨_, rfl⟩
      obtain ⟨F, hF⟩ : ∃ F : Nat, F = D % k := ⟨_, rfl⟩
      obtain ⟨P, hP⟩ : ∃ P : Nat, P = pm k t i := ⟨_, rfl⟩
      obtain ⟨Y, hY⟩ : ∃ Y : Nat, Y = P + 1 := ⟨_, rfl⟩
      obtain ⟨Z, hZ⟩ : ∃ Z : Nat, Z = Y % k := ⟨_, rfl⟩
      obtain ⟨X, hX⟩ : ∃ X : Nat, X = 1 + P := ⟨_, rfl⟩
      obtain ⟨V, hV⟩ : ∃ V : Nat, V = 1 + Z := ⟨_, rfl⟩
      have hPk : P < k := by rw [hP]; exact pm_lt (by omega)
      have hZk : Z < k := by rw [hZ]; exact Nat.mod_lt _ (by omega)
      have ht9 := HK.out.2.2
      have a1 : (i : Int) * 7 = (A : Int) := by omega
      have a2 : IntKind.i64.wrap ((i : Int) * 7) = (A : Int) := by rw [IntKind.wrap_i64]; omega
      have b1 : (A : Int) + (t : Int) = (B : Int) := by omega
      have b2 : IntKind.i64.wrap ((A : Int) + (t : Int)) = (B : Int) := by rw [IntKind.wrap_i64]; omega
      have c1 : (B : Int).tmod (k : Int) = (C : Int) := by rw [Int.tmod_eq_emod_of_nonneg (by omega), hC]; simp
      have c2 : (B : Int) % (k : Int) = (C : Int) := by rw [hC]; simp
      have d1 : (i : Int) + (t : Int) = (D : Int) := by omega
      have d2 : IntKind.i64.wrap ((i : Int) + (t : Int)) = (D : Int) := by rw [IntKind.wrap_i64]; omega
      have e1 : (D : Int).tmod (k : Int) = (F : Int) := by rw [Int.tmod_eq_emod_of_nonneg (by omega), hF]; simp
      have e2 : (D : Int) % (k : Int) = (F : Int) := by rw [hF]; simp
      have x1 : (1 : Int) + (P : Int) = (X : Int) := by omega
      have x2 : IntKind.i64.wrap ((1 : Int) + (P : Int)) = (X : Int) := by rw [IntKind.wrap_i64]; omega
      have y1 : (P : Int) + 1 = (Y : Int) := by omega
      have y2 : IntKind.i64.wrap ((P : Int) + 1) = (Y : Int) := by rw [IntKind.wrap_i64]; omega
      have z1 : (Y : Int).tmod (k : Int) = (Z : Int) := by rw [Int.tmod_eq_emod_of_nonneg (by omega), hZ]; simp
      have z2 : (Y : Int) % (k : Int) = (Z : Int) := by rw [hZ]; simp
      have v1 : (1 : Int) + (Z : Int) = (V : Int) := by omega
      have v2 : IntKind.i64.wrap ((1 : Int) + (Z : Int)) = (V : Int) := by rw [IntKind.wrap_i64]; omega
      have hX9 : X ≤ 1000 := by omega
      have hY9 : Y ≤ 1000 := by omega
      have hV9 : V ≤ 1000 := by omega
      have s1 : IntKind.i64.wrap ((k : Int) - 1) = (k : Int) - 1 := by rw [IntKind.wrap_i64]; omega
      obtain ⟨r7, hr7⟩ : ∃ r7 : Nat, r7 = k % 7 := ⟨_, rfl⟩
      have r1 : (k : Int).tmod 7 = (r7 : Int) := by rw [Int.tmod_eq_emod_of_nonneg (by omega)]; omega
      have r2 : (k : Int) % 7 = (r7 : Int) := by omega
      have HC : Hid (Calls Try.prog 15 #[.pointer (some ⟨gb, 0, none⟩), .int .i64 X, .slice (some ⟨wr.heap.size, 0, none⟩) 1 1] (wr.alloc (.cells #[.int .i64 V] 2)) fun e w' => ∃ a er, e = .returned (.tuple #[.bool a, .int .i64 er]) ∧ Hid ((i + 1 < k ∧ er = 0 ∧ PG w w' gb (ringG k (sset T P true)) ∧ Rng k t (i + 1) (sset T P true)) ∨ (i + 1 = k ∧ er = 8 ∧ Below w.heap.size w w'))) := by
        have hg := HI.out.2.1.grow ((Below.refl _ wr).alloc (Nat.le_refl _) (.cells #[.int .i64 V] 2 (0, 0)))
        have hai : AI (wr.alloc (.cells #[.int .i64 V] 2)) (some ⟨wr.heap.size, 0, none⟩) [(V : Int)] := fun j x hx => by
          cases j with
          | zero => simp at hx; subst hx; exact ⟨_, 0, rfl, by rw [cell_of new0]; rfl⟩
          | succ j => simp at hx
        refine (add_any hg.gr X _ 1 1 [(V : Int)] rfl hai (by omega)).mono ?_
        rintro e w' ⟨a, er, rfl, g', r1, r2, r3⟩
        refine ⟨a, er, rfl, ?_⟩
        have hr := r1
        rw [hX, hV, hZ, hY, hP] at hr
        rcases HI.out.2.2.add hi HK.out.2.1 hr with ⟨q1, q2, q3⟩ | ⟨q1, q2⟩
        · rw [← hP] at q3
          refine .inl ⟨q1, q2, by rw [← q3]; exact hg.kp r3 r2, by rw [hP]; exact HI.out.2.2.next hi⟩
        · exact .inr ⟨q1, q2, (hg.kp r3 r2).bl⟩
      have HPM : Hid (P = if r7 = 0 then F else C) := by
        show P = _
        rw [hP, hr7, hF, hD, hC, hB, hA]
        rfl
      have Hk : Hid (i < k) := hi
      clear hA hB hC hD hF hP hY hZ hX hV hr7 HI hPk hZk ht9 hi
      have w1' := wr_nat X hX9
      have w2' := wr_nat Y hY9
      have w3' := wr_nat V hV9
      clear hX9 hY9 hV9
      by_cases h7 : r7 = 0
      · have h7' : ((r7 : Int) == 0) = true := by rw [h7]; rfl
        have hPF : P = F := by have := HPM.out; rwa [if_pos h7] at this
        subst hPF
        clear h7 HPM
        go_upto_region 11 with fail
        clear a1 a2 b1 b2 c1 c2 d1 d2 e1 e2 r1 r2
        go_upto_region 12 with (go_at_call 15; refine HC.out.mono ?_; rintro e w3 ⟨a, er, rfl, h3⟩)
        clear HC x1 x2 y1 y2 z1 z2 v1 v2 w1' w2' w3'
        rcases h3.out with ⟨q1, rfl, q3, q4⟩ | ⟨q1, rfl, q3⟩
        · have u1 : ((i : Int) == (k : Int) - 1) = false := by simp; omega
          have HQ : Hid (i + 1 < k ∧ PG w w3 gb (ringG k (sset T P true)) ∧ Rng k t (i + 1) (sset T P true)) := ⟨q1, q3, q4⟩
          clear h3 q1 q3 q4
          go_wp2_with fail
          have := HQ.out.1
          refine ⟨⟨i + 1, _, by simp, by omega, .inl HQ.out⟩, ?_⟩
          simp [intOf]
          omega
        · have u1 : ((i : Int) == (k : Int) - 1) = true := by simp; omega
          have HQ : Hid (i + 1 = k ∧ Below w.heap.size w w3) := ⟨q1, q3⟩
          clear h3 q1 q3
          go_wp2_with fail
          have := HQ.out.1
          refine ⟨⟨i + 1, T, by simp, by omega, .inr HQ.out⟩, ?_⟩
          simp [intOf]
          omega
      · have h7' : ((r7 : Int) == 0) = false := by simp; omega
        have hPF : P = C := by have := HPM.out; rwa [if_neg h7] at this
        subst hPF
        clear h7 HPM
        go_upto_region 11 with fail
        clear a1 a2 b1 b2 c1 c2 d1 d2 e1 e2 r1 r2
        go_upto_region 12 with (go_at_call 15; refine HC.out.mono ?_; rintro e w3 ⟨a, er, rfl, h3⟩)
        clear HC x1 x2 y1 y2 z1 z2 v1 v2 w1' w2' w3'
        rcases h3.out with ⟨q1, rfl, q3, q4⟩ | ⟨q1, rfl, q3⟩
        · have u1 : ((i : Int) == (k : Int) - 1) = false := by simp; omega
          have HQ : Hid (i + 1 < k ∧ PG w w3 gb (ringG k (sset T P true)) ∧ Rng k t (i + 1) (sset T P true)) := ⟨q1, q3, q4⟩
          clear h3 q1 q3 q4
          go_wp2_with fail
          have := HQ.out.1
          refine ⟨⟨i + 1, _, by simp, by omega, .inl HQ.out⟩, ?_⟩
          simp [intOf]
          omega
        · have u1 : ((i : Int) == (k : Int) - 1) = true := by simp; omega
          have HQ : Hid (i + 1 = k ∧ Below w.heap.size w w3) := ⟨q1, q3⟩
          clear h3 q1 q3
          go_wp2_with fail
          have := HQ.out.1
          refine ⟨⟨i + 1, T, by simp, by omega, .inr HQ.out⟩, ?_⟩
          simp [intOf]
          omega
    · have hi' : ¬ (i : Int) < (k : Int) := by omega
      have hi2 : decide ((i : Int) < (k : Int)) = false := decide_eq_false hi'
      have HB : Hid (Below w.heap.size w wr) := by
        rcases HI0.out with h | h
        · omega
        · exact h.2
      clear HI0 hi
      go_wp2_with fail
      go_ret
      exact ⟨rfl, HB.out⟩
end Go.Proofs.Ytodldfgoieikcaa
