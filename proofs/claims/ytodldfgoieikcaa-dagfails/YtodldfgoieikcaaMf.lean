/-
  What numbers descend from; numbers that are not seen yet; is one of them failed.
-/
import Derived.Test.YtodldfgoieikcaaMe
namespace Go.Proofs.Ytodldfgoieikcaa
open Go.RowKit Go.Maps

inductive Rch (ps : Nat → Nat → Bool) (s : Nat → Bool) : Nat → Prop
  | base {i : Nat} : i < 101 → s i = true → Rch ps s i
  | step {i j : Nat} : Rch ps s i → j < 101 → ps i j = true → Rch ps s j
theorem Rch.lt {ps : Nat → Nat → Bool} {s : Nat → Bool} {i : Nat} (h : Rch ps s i) : i < 101 := by cases h <;> assumption
/-- numbers that are not seen -/
def cnt (s : Nat → Bool) : Nat := ((List.range 101).filter fun i => !s i).length
theorem cnt_le (s : Nat → Bool) : cnt s ≤ 101 := by
  unfold cnt
  exact Nat.le_trans (List.length_filter_le _ _) (by simp)
theorem filt_less {L : List Nat} {s : Nat → Bool} {i : Nat} (hs : s i = false) (hn : L.Nodup) (hi : i ∈ L) : (L.filter fun j => !sset s i true j).length + 1 = (L.filter fun j => !s j).length := by
  induction L with
  | nil => cases hi
  | cons a L ih =>
    rw [List.nodup_cons] at hn
    by_cases e : a = i
    · subst e
      have h1 : L.filter (fun j => !sset s a true j) = L.filter fun j => !s j := by
        apply List.filter_congr
        intro j hj
        have : j ≠ a := fun q => hn.1 (q ▸ hj)
        simp [sset, this]
      rw [List.filter_cons, List.filter_cons, h1]
      simp [sset, hs]
    · have hi' : i ∈ L := by
        rcases List.mem_cons.1 hi with h | h
        · exact absurd h.symm e
        · exact h
      have := ih hn.2 hi'
      rw [List.filter_cons, List.filter_cons]
      have e2 : sset s i true a = s a := by simp [sset, e]
      rw [e2]
      cases s a
      · simp; omega
      · simpa using this
theorem cnt_less {s : Nat → Bool} {i : Nat} (hi : i < 101) (hs : s i = false) : cnt (sset s i true) + 1 = cnt s := filt_less hs List.nodup_range (by simpa using hi)
/-- the same, as it lies in memory -/
def cntW (w : World) (b : Nat) : Nat := ((List.range 101).filter fun i => match w.cell? ⟨b, i, none⟩ with | some (.bool true) => false | _ => true).length
theorem Sx.cnt {w : World} {b : Nat} {s : Nat → Bool} (h : Sx w b s) : cntW w b = Go.Proofs.Ytodldfgoieikcaa.cnt s := by
  unfold cntW Go.Proofs.Ytodldfgoieikcaa.cnt
  congr 1
  apply List.filter_congr
  intro i hi
  rw [h.cell i (by simpa using hi)]
  cases s i <;> rfl

theorem IRow.arg {b : Nat} {w : World} {q : Option Addr} {n c : Nat} {E : List Int} (h : IRow b w (.slice q n c) E) : (q = none → c = 0) ∧ ∀ a, q = some a → a.spot = none := by
  rcases h.2 with ⟨e, _⟩ | ⟨g, cap, cur, e, _⟩
  · injection e with e1 e2 e3
    subst e1
    exact ⟨(fun _ => e3), (fun a q => by cases q)⟩
  · injection e with e1 e2 e3
    subst e1
    exact ⟨(fun q => by cases q), (fun a q => by cases q; rfl)⟩
theorem IRow.pop {b : Nat} {w : World} {g n c : Nat} {E : List Int} {x : Int} (h : IRow b w (.slice (some ⟨g, 0, none⟩) (n + 1) c) (E ++ [x])) : IRow b w (.slice (some ⟨g, 0, none⟩) n c) E := by
  have hn := h.len
  have hl : n = E.length := by simp at hn; exact hn
  refine ⟨by simp [ints], ?_⟩
  rcases h.2 with ⟨e, _⟩ | ⟨g', cap, cur, e, h1, h2, h3, h4, h5, h6⟩
  · cases e
  · injection e with e1 e2 e3
    cases e1
    subst e3
    refine .inr ⟨g, c, cur, by rw [hl], h1, h2, ?_, h4, h5, ?_⟩
    · simp at h3; omega
    · have h7 := congrArg (List.take E.length) h6
      rw [List.take_take] at h7
      have e8 : ints (E ++ [x]) = ints E ++ ints [x] := by simp [ints]
      have e9 : List.take E.length (ints E ++ ints [x]) = ints E := by
        rw [List.take_append_of_le_length (by simp [ints]), List.take_of_length_le (by simp [ints])]
      rw [e8, e9, show min E.length ((E ++ [x]).length * 1) = E.length * 1 by simp] at h7
      exact h7
theorem list_last {E : List Int} (h : 0 < E.length) : ∃ F x, E = F ++ [x] := by
  rcases List.eq_nil_or_concat E with rfl | ⟨F, x, rfl⟩
  · simp at h
  · exact ⟨F, x, by simp⟩

/-- did one of these fail? -/
@[irreducible] def afB (g : GS) (s : Nat → Bool) : Bool := (List.range 101).any fun j => s j && decide (g.st j = 3)
theorem afB_iff {g : GS} {s : Nat → Bool} : afB g s = true ↔ ∃ j, j < 101 ∧ s j = true ∧ g.st j = 3 := by
  unfold afB
  rw [List.any_eq_true]
  constructor
  · rintro ⟨j, h1, h2⟩
    rw [Bool.and_eq_true, decide_eq_true_iff] at h2
    exact ⟨j, by simpa using h1, h2⟩
  · rintro ⟨j, h1, h2, h3⟩
    exact ⟨j, by simpa using h1, by simp [h2, h3]⟩
set_option maxHeartbeats 1000000 in
set_option maxRecDepth 100000 in
theorem af_any {w : World} {gb : Nat} {g : GS} (h : Gr w gb g) (s : Nat → Bool) : Calls Try.prog 31 #[.pointer (some ⟨gb, 0, none⟩), .agg (sA s)] w fun e w' => e = .returned (.bool (afB g s)) ∧ Below w.heap.size w w' := by
  have HG : Hid (Gr (w.alloc (.cells (sA s) 49)) gb g) := h.grow ((Below.refl _ w).alloc (Nat.le_refl _) _)
  clear h
  have R1 : Hid (Sx (w.alloc (.cells (sA s) 49)) w.heap.size s) := sx_new w _ _ rfl
  have B1 : Hid (Below w.heap.size w (w.alloc (.cells (sA s) 49))) := (Below.refl _ w).alloc (Nat.le_refl _) _
  go_enter Try.func31, Try.ntmps31
  go_upto_region 1 with fail
  go_wp2_with (refine wpList_load_row rfl 49 _ rfl w.heap.size rfl 49 (sA s) (0, 0) _ R1.out Try.underlying49 rfl (size49 _) ?_)
  generalize w.alloc (.cells (sA s) 49) = W at *
  clear R1
  go_loopw [8] (fun t wr => ∃ k : Nat, t = .int .i64 k ∧ wr = W ∧ Hid (k ≤ 101 ∧ ∀ j, j < k → s j = true → g.st j ≠ 3)) (fun t _ => 101 - (intOf t).toNat)
  case atStart => exact ⟨0, rfl, rfl, Nat.zero_le _, fun j hj => absurd hj (by omega)⟩
  case round =>
    obtain ⟨k, rfl, rfl, HK⟩ := hrel
    by_cases hk : k < 101
    · have hk' : (k : Int) < 101 := by omega
      have hx := ix_at s hk
      have ck := HG.out.s k hk
      cases hp : s k
      · have HN : Hid (k + 1 ≤ 101 ∧ ∀ j, j < k + 1 → s j = true → g.st j ≠ 3) := ⟨by omega, fun j hj hq => by
          by_cases e : j = k
          · rw [e, hp] at hq; cases hq
          · exact HK.out.2 j (by omega) hq⟩
        rw [hp] at hx
        go_wp2_with fail
        refine ⟨⟨k + 1, by simp, by first | rfl | trivial, HN.out⟩, ?_⟩
        simp [intOf]
        omega
      · rw [hp] at hx
        by_cases h2 : g.st k = 3
        · have h2' : (((g.st k : Nat) : Int) == 3) = true := by simp [h2]
          have HM : Hid (afB g s = true) := afB_iff.2 ⟨k, hk, hp, h2⟩
          clear h2
          go_wp2_with fail
          go_ret
          exact ⟨ret_b HM.out.symm, B1.out⟩
        · have h2' : (((g.st k : Nat) : Int) == 3) = false := by simp; omega
          have HN : Hid (k + 1 ≤ 101 ∧ ∀ j, j < k + 1 → s j = true → g.st j ≠ 3) := ⟨by omega, fun j hj hq => by
            by_cases e : j = k
            · rw [e]; exact h2
            · exact HK.out.2 j (by omega) hq⟩
          clear h2
          go_wp2_with fail
          refine ⟨⟨k + 1, by simp, by first | rfl | trivial, HN.out⟩, ?_⟩
          simp [intOf]
          omega
    · have hk' : ¬ (k : Int) < 101 := by omega
      have HM : Hid (afB g s = false) := by
        show afB g s = false
        cases e : afB g s
        · rfl
        · obtain ⟨j, h1, h2, h3⟩ := afB_iff.1 e
          exact absurd h3 (HK.out.2 j (by have := HK.out.1; omega) h2)
      go_wp2_with fail
      go_ret
      exact ⟨ret_b HM.out.symm, B1.out⟩
end Go.Proofs.Ytodldfgoieikcaa
