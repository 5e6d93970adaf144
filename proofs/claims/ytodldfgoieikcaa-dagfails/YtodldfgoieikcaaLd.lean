/-
  No job descends from itself: ranks; jobs taken one by one.
-/
import Derived.Test.YtodldfgoieikcaaRi
import Derived.Test.YtodldfgoieikcaaSc
namespace Go.Proofs.Ytodldfgoieikcaa
open Go.RowKit Go.Maps

theorem bdd (f : Nat → Nat) : ∀ n, ∃ M, ∀ i, i < n → f i < M
  | 0 => ⟨0, fun i h => absurd h (by omega)⟩
  | n + 1 => by
    obtain ⟨M, hM⟩ := bdd f n
    refine ⟨M + f n + 1, fun i hi => ?_⟩
    by_cases e : i = n
    · subst e; omega
    · have := hM i (by omega); omega
/-- parents have lesser ranks -/
def Ac (g : GS) : Prop := ∃ rk : Nat → Nat, ∀ i j, i < 101 → j < 101 → g.st i ≠ 0 → g.st j ≠ 0 → g.ps i j = true → rk j < rk i
theorem ac_zero : Ac g0 := ⟨fun _ => 0, fun _ _ _ _ h => absurd rfl h⟩
open Classical in
theorem Ac.add {g : GS} {i : Nat} {s : Nat → Bool} (h : Ac g) (hr : ¬ Rch g.ps s i) : Ac (g.add i s) := by
  obtain ⟨rk, hrk⟩ := h
  obtain ⟨M, hM⟩ := bdd rk 101
  refine ⟨fun y => if y = i then M else if Rch g.ps s y then rk y else rk y + M + 1, fun x y hx hy h1 h2 hp => ?_⟩
  unfold GS.add at h1 h2 hp
  simp only [] at h1 h2 hp
  simp only []
  by_cases ex : x = i
  · rw [if_pos ex] at hp
    have hRy : Rch g.ps s y := .base hy hp
    have ey : y ≠ i := fun e => hr (e ▸ hRy)
    rw [if_neg ey, if_pos hRy, if_pos ex]
    exact hM y hy
  · rw [if_neg ex] at h1 hp
    rw [if_neg ex]
    by_cases ey : y = i
    · have hRx : ¬ Rch g.ps s x := fun q => hr (by rw [← ey]; exact .step q hy hp)
      rw [if_pos ey, if_neg hRx]
      omega
    · rw [if_neg ey] at h2
      have h3 := hrk x y hx hy h1 h2 hp
      rw [if_neg ey]
      by_cases hRx : Rch g.ps s x
      · rw [if_pos hRx, if_pos (Rch.step hRx hy hp)]
        exact h3
      · rw [if_neg hRx]
        split <;> omega
/-- the jobs that are there -/
structure Th (g : GS) (T : List Int) : Prop where
  d : T.Nodup
  m : ∀ y, y ∈ T ↔ ∃ n : Nat, y = n ∧ 1 ≤ n ∧ n < 101 ∧ g.st n ≠ 0
theorem th_zero : Th g0 [] := ⟨List.nodup_nil, fun y => ⟨(fun h => by cases h), (fun ⟨n, _, _, _, h⟩ => absurd rfl h)⟩⟩
theorem Th.nums {g : GS} {T : List Int} (h : Th g T) : ∀ y ∈ T, isN y = true := fun y hy => by
  obtain ⟨n, rfl, h1, h2, _⟩ := (h.m y).1 hy
  exact isN_of h1 h2
theorem Th.len {g : GS} {T : List Int} (h : Th g T) : T.length ≤ 100 := nodup_len h.d h.nums
theorem th_add {g g' : GS} {x : Int} {E T : List Int} {a : Bool} {er : Int} (h : Th g T) (hA : Ac g) (hr : AddR g x E a er g') : (er = 0 ∧ Th g' (T ++ [x]) ∧ Ac g') ∨ (er ≠ 0 ∧ g' = g) := by
  cases hr with
  | range => exact .inr ⟨by omega, rfl⟩
  | twice => exact .inr ⟨by omega, rfl⟩
  | cycle => exact .inr ⟨by omega, rfl⟩
  | state => exact .inr ⟨by omega, rfl⟩
  | ok i h1 h2 h3 h4 h5 h6 h7 =>
    refine .inl ⟨rfl, ⟨nodup_snoc h.d fun q => ?_, fun y => ?_⟩, hA.add h6⟩
    · obtain ⟨n, e, _, _, q2⟩ := (h.m x).1 q
      have : n = i := by omega
      rw [this] at q2
      exact q2 h5
    · rw [List.mem_append, h.m]
      simp only [List.mem_singleton]
      unfold GS.add
      simp only []
      constructor
      · rintro (⟨n, q1, q2, q3, q4⟩ | rfl)
        · refine ⟨n, q1, q2, q3, ?_⟩
          split
          · omega
          · exact q4
        · exact ⟨i, h2, h3, h4, by rw [if_pos rfl]; omega⟩
      · rintro ⟨n, q1, q2, q3, q4⟩
        by_cases e : n = i
        · exact .inr (by omega)
        · rw [if_neg e] at q4
          exact .inl ⟨n, q1, q2, q3, q4⟩
theorem sub_len {O T : List Int} (hO : O.Nodup) (hT : T.Nodup) (hN : ∀ y ∈ T, isN y = true) (hs : ∀ y ∈ O, y ∈ T) : O.length ≤ T.length := by
  have h1 := nodup_cnt hO fun y hy => hN y (hs y hy)
  have h2 := nodup_cnt hT hN
  have h3 : cnt (stI T) ≤ cnt (stI O) := by
    unfold cnt
    rw [← List.countP_eq_length_filter, ← List.countP_eq_length_filter]
    apply List.countP_mono_left
    intro x _ hx
    cases e : stI O x
    · rfl
    · exfalso
      unfold stI at e
      rw [inB_iff] at e
      have : stI T x = true := by unfold stI; rw [inB_iff]; exact hs _ e
      rw [this] at hx
      cases hx
  omega
theorem least {P : Nat → Prop} (f : Nat → Nat) : ∀ b n, P n → f n ≤ b → ∃ m, P m ∧ ∀ k, P k → f m ≤ f k
  | 0, n, h, hb => ⟨n, h, fun k _ => by omega⟩
  | b + 1, n, h, hb => by
    by_cases hq : ∃ k, P k ∧ f k < f n
    · obtain ⟨k, h1, h2⟩ := hq
      exact least f b k h1 (by omega)
    · exact ⟨n, h, fun k hk => by
        by_cases e : f k < f n
        · exact absurd ⟨k, hk, e⟩ hq
        · omega⟩
/-- the next that can be taken -/
theorem next_one {g : GS} {T O : List Int} (h : Th g T) (hA : Ac g) (hO : O.Nodup) (hs : ∀ y ∈ O, y ∈ T) : ∃ x0 : Nat, O.length < T.length → (x0 : Int) ∈ T ∧ (x0 : Int) ∉ O ∧ ∀ p : Nat, p < 101 → g.ps x0 p = true → (p : Int) ∈ T → (p : Int) ∈ O := by
  by_cases hl : O.length < T.length
  · obtain ⟨rk, hrk⟩ := hA
    have hx : ∃ n : Nat, (n : Int) ∈ T ∧ (n : Int) ∉ O := by
      by_cases hx : ∃ n : Nat, (n : Int) ∈ T ∧ (n : Int) ∉ O
      · exact hx
      · exfalso
        have : T.length ≤ O.length := sub_len h.d hO (fun y hy => h.nums y (hs y hy)) fun y hy => by
          obtain ⟨n, rfl, _⟩ := (h.m y).1 hy
          cases e : inB O (n : Int)
          · exact absurd ⟨n, hy, inB_no.1 e⟩ hx
          · exact inB_iff.1 e
        omega
    obtain ⟨n, hn⟩ := hx
    obtain ⟨x0, h1, h2⟩ := least (P := fun n => (n : Int) ∈ T ∧ (n : Int) ∉ O) rk (rk n) n hn (Nat.le_refl _)
    refine ⟨x0, fun _ => ⟨h1.1, h1.2, fun p hp hps hpT => ?_⟩⟩
    cases e : inB O (p : Int)
    · exfalso
      have h3 := h2 p ⟨hpT, inB_no.1 e⟩
      obtain ⟨a, e1, _, a2, a3⟩ := (h.m _).1 h1.1
      obtain ⟨b, e2, _, b2, b3⟩ := (h.m _).1 hpT
      have ea : a = x0 := by omega
      have eb : b = p := by omega
      rw [ea] at a2 a3
      rw [eb] at b2 b3
      have := hrk x0 p a2 hp a3 b3 hps
      omega
    · exact inB_iff.1 e
  · exact ⟨0, fun q => absurd q hl⟩
end Go.Proofs.Ytodldfgoieikcaa
