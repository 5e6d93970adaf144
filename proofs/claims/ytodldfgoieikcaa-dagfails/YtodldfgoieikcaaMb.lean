/-
  Which numbers a job may have; is a job there, is it free.
-/
import Derived.Test.YtodldfgoieikcaaMa
namespace Go.Proofs.Ytodldfgoieikcaa
open Go.RowKit Go.Maps

theorem ix_at (s : Nat → Bool) {k : Nat} (hk : k < 101) : ∀ w, (Instr.index 49 (.agg (sA s)) (.int .i64 k)).run Try.prog w = .ok (.bool (s k)) w := by
  intro w
  have hk' : (k : Int) < 101 := by omega
  have h1 := sA_get s k hk
  simp only [Instr.index, Sem.run_bind, run_underlying Try.underlying49, asIntOf, go_sem]
  simp [h1, go_sem]
  intro h
  omega
def isN (x : Int) : Bool := decide (1 ≤ x) && decide (x ≤ 100)
theorem isN_iff {x : Int} : isN x = true ↔ 1 ≤ x ∧ x ≤ 100 := by unfold isN; simp
theorem isN_nat {x : Int} (h : isN x = true) : ∃ i : Nat, x = i ∧ 1 ≤ i ∧ i < 101 := by
  rw [isN_iff] at h
  exact ⟨x.toNat, by omega, by omega, by omega⟩
theorem isN_of {i : Nat} (h1 : 1 ≤ i) (h2 : i < 101) : isN (i : Int) = true := isN_iff.2 (by omega)
set_option maxHeartbeats 400000 in
theorem isn_any (x : Int) (w : World) : Calls Try.prog 29 #[.int .i64 x] w fun e w' => e = .returned (.bool (isN x)) ∧ w' = w := by
  unfold isN
  by_cases h1 : 1 ≤ x
  · by_cases h2 : x ≤ 100
    · go_enter Try.func29, Try.ntmps29
      go_wp2_with fail
      go_ret
      exact ⟨by simp [h1, h2], rfl⟩
    · go_enter Try.func29, Try.ntmps29
      go_wp2_with fail
      go_ret
      exact ⟨by simp [h2], rfl⟩
  · have h1' : decide (1 ≤ x) = false := decide_eq_false h1
    go_enter Try.func29, Try.ntmps29
    go_wp2_with fail
    go_ret
    exact ⟨by simp, rfl⟩

/-- is a job free? -/
@[irreducible] def frB (g : GS) (i : Nat) : Bool := decide (g.st i = 1) && (List.range 101).all fun j => !g.ps i j || decide (g.st j = 2)
theorem frB_iff {g : GS} {i : Nat} : frB g i = true ↔ g.st i = 1 ∧ ∀ j, j < 101 → g.ps i j = true → g.st j = 2 := by
  unfold frB
  rw [Bool.and_eq_true, decide_eq_true_iff, List.all_eq_true]
  refine and_congr Iff.rfl ⟨fun h j hj hp => ?_, fun h j hj => ?_⟩
  · have := h j (by simpa using hj)
    rw [hp] at this
    simpa using this
  · have hj' : j < 101 := by simpa using hj
    cases hp : g.ps i j
    · rfl
    · simpa using h j hj' hp
theorem frB_no {g : GS} {i : Nat} (h : ¬ (g.st i = 1 ∧ ∀ j, j < 101 → g.ps i j = true → g.st j = 2)) : frB g i = false := by
  cases e : frB g i
  · rfl
  · exact absurd (frB_iff.1 e) h
set_option maxHeartbeats 1000000 in
set_option maxRecDepth 100000 in
theorem isfree_any {w : World} {gb : Nat} {g : GS} (h : Gr w gb g) (i : Nat) (hi : i < 101) : Calls Try.prog 26 #[.pointer (some ⟨gb, 0, none⟩), .int .i64 i] w fun e w' => e = .returned (.bool (frB g i)) ∧ w' = w := by
  have c0 := h.s i hi
  have hi' : (i : Int) < 101 := by omega
  have HG : Hid (Gr w gb g) := h
  clear h
  by_cases h1 : g.st i = 1
  · have h1' : (((g.st i : Nat) : Int) != 1) = false := by simp [h1]
    have HF : Hid (g.st i = 1) := h1
    clear h1
    go_enter Try.func26, Try.ntmps26
    go_upto_region 3 with fail
    have HR : Hid (w.rangeAt gb (i * 102 + 1) (sL (g.ps i))) := HG.out.range i hi
    go_upto_region 4 with (refine wpList_load_mid rfl 49 _ rfl gb (i * 102 + 1) rfl (sL (g.ps i)) _ HR.out Try.underlying49 rfl (size49L _) ?_; rw [sA_list])
    clear HR c0 h1'
    go_loopw [22] (fun t wr => ∃ k : Nat, t = .int .i64 k ∧ wr = w ∧ Hid (k ≤ 101 ∧ ∀ j, j < k → g.ps i j = true → g.st j = 2)) (fun t _ => 101 - (intOf t).toNat)
    case atStart => exact ⟨0, rfl, rfl, Nat.zero_le _, fun j hj => absurd hj (by omega)⟩
    case round =>
      obtain ⟨k, rfl, rfl, HK⟩ := hrel
      by_cases hk : k < 101
      · have hk' : (k : Int) < 101 := by omega
        have hx := ix_at (g.ps i) hk
        have ck := HG.out.s k hk
        by_cases hp : g.ps i k = true
        · by_cases h2 : g.st k = 2
          · have h2' : (((g.st k : Nat) : Int) != 2) = false := by simp [h2]
            have HN : Hid (k + 1 ≤ 101 ∧ ∀ j, j < k + 1 → g.ps i j = true → g.st j = 2) := ⟨by omega, fun j hj hq => by
              by_cases e : j = k
              · rw [e]; exact h2
              · exact HK.out.2 j (by omega) hq⟩
            clear h2
            go_wp2_with fail
            refine ⟨⟨k + 1, by simp, by first | rfl | trivial, HN.out⟩, ?_⟩
            simp [intOf]
            omega
          · have h2' : (((g.st k : Nat) : Int) != 2) = true := by simp; omega
            go_wp2_with fail
            go_ret
            exact ⟨ret_b (frB_no fun q => h2 (q.2 k hk hp)).symm, rfl⟩
        · have hp' : g.ps i k = false := by simpa using hp
          have HN : Hid (k + 1 ≤ 101 ∧ ∀ j, j < k + 1 → g.ps i j = true → g.st j = 2) := ⟨by omega, fun j hj hq => by
            by_cases e : j = k
            · rw [e] at hq; exact absurd hq hp
            · exact HK.out.2 j (by omega) hq⟩
          rw [hp'] at hx
          go_wp2_with fail
          refine ⟨⟨k + 1, by simp, by first | rfl | trivial, HN.out⟩, ?_⟩
          simp [intOf]
          omega
      · have hk' : ¬ (k : Int) < 101 := by omega
        go_wp2_with fail
        go_ret
        exact ⟨ret_b (frB_iff.2 ⟨HF.out, fun j hj => HK.out.2 j (by have := HK.out.1; omega)⟩).symm, rfl⟩
  · have h1' : (((g.st i : Nat) : Int) != 1) = true := by simp; omega
    go_enter Try.func26, Try.ntmps26
    go_wp2_with fail
    go_ret
    exact ⟨ret_b (frB_no fun q => h1 q.1).symm, rfl⟩

/-- is a job there? -/
def hasB (g : GS) (x : Int) : Bool := isN x && decide (g.st x.toNat ≠ 0)
theorem hasB_iff {g : GS} {x : Int} : hasB g x = true ↔ ∃ i : Nat, x = i ∧ 1 ≤ i ∧ i < 101 ∧ g.st i ≠ 0 := by
  unfold hasB
  rw [Bool.and_eq_true, isN_iff, decide_eq_true_iff]
  constructor
  · rintro ⟨h1, h2⟩; exact ⟨x.toNat, by omega, by omega, by omega, h2⟩
  · rintro ⟨i, rfl, h1, h2, h3⟩; exact ⟨by omega, by simpa using h3⟩
set_option maxHeartbeats 1000000 in
set_option maxRecDepth 100000 in
theorem has_any {w : World} {gb : Nat} {g : GS} (h : Gr w gb g) (x : Int) : Calls Try.prog 25 #[.pointer (some ⟨gb, 0, none⟩), .int .i64 x] w fun e w' => e = .returned (.bool (hasB g x)) ∧ w' = w := by
  have HI : Hid (∀ w, Calls Try.prog 29 #[.int .i64 x] w fun e w' => e = .returned (.bool (isN x)) ∧ w' = w) := isn_any x
  cases hx : isN x
  · go_enter Try.func25, Try.ntmps25
    go_wp2_with (go_at_call 29; refine (HI.out _).mono ?_; rintro e w1 ⟨rfl, rfl⟩; rw [hx])
    go_ret
    exact ⟨by unfold hasB; rw [hx]; rfl, rfl⟩
  · obtain ⟨i, rfl, h1, h2⟩ := isN_nat hx
    have c0 := h.s i h2
    have hi' : (i : Int) < 101 := by omega
    go_enter Try.func25, Try.ntmps25
    go_wp2_with (go_at_call 29; refine (HI.out _).mono ?_; rintro e w1 ⟨rfl, rfl⟩; rw [hx])
    go_ret
    refine ⟨ret_b ?_, rfl⟩
    unfold hasB
    rw [hx]
    simp
    by_cases e : g.st i = 0 <;> simp [e]
set_option maxHeartbeats 400000 in
theorem has_nil (x : Int) (w : World) : Calls Try.prog 25 #[.pointer none, .int .i64 x] w fun e w' => e = .returned (.bool false) ∧ w' = w := by
  go_enter Try.func25, Try.ntmps25
  go_wp2_with fail
  go_ret
  exact ⟨rfl, rfl⟩
end Go.Proofs.Ytodldfgoieikcaa
