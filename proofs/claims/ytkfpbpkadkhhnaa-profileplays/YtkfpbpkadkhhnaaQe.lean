/-
  Plain mathematics: what is free by takes, between their ends.
-/
import Derived.Test.YtkfpbpkadkhhnaaQc
import Derived.Test.YtkfpbpkadkhhnaaMc
namespace Go.Proofs.Ytkfpbpkadkhhnaa

theorem sumT_const {T : List Opr} {E : List Int} (ha : ∀ o ∈ T, o.a ∈ E ∧ o.b ∈ E) {u u' : Int} (hu : u ≤ u') (hn : ∀ e ∈ E, ¬ (u < e ∧ e ≤ u')) : sumT T u = sumT T u' := by
  induction T with
  | nil => rfl
  | cons o r ih =>
    have h1 := ha o (by simp)
    have h2 := hn _ h1.1
    have h3 := hn _ h1.2
    rw [sumT_cons, sumT_cons, ih fun x hx => ha x (List.mem_cons_of_mem _ hx)]
    by_cases q : o.a ≤ u ∧ u < o.b
    · rw [if_pos q, if_pos (by omega)]
    · rw [if_neg q, if_neg (by omega)]
theorem fT_const {C : V} {T : List Opr} {E : List Int} (h : Ends T E) {u u' : Int} (hu : u ≤ u') (hn : ∀ e ∈ E, ¬ (u < e ∧ e ≤ u')) : fT C T u = fT C T u' := by
  unfold fT
  rw [plF_sum, plF_sum, sumT_const h.a hu hn]
theorem sumT_none {T : List Opr} {u : Int} (h : ∀ o ∈ T, ¬ (o.a ≤ u ∧ u < o.b)) : sumT T u = V.nil := by
  induction T with
  | nil => rfl
  | cons o r ih => rw [sumT_cons, if_neg (h o (by simp)), ih fun x hx => h x (List.mem_cons_of_mem _ hx)]
theorem fT_none {C : V} {T : List Opr} {u : Int} (h : ∀ o ∈ T, ¬ (o.a ≤ u ∧ u < o.b)) : fT C T u = C := by
  unfold fT
  rw [plF_sum, sumT_none h]
  unfold V.sub V.nil
  simp
/-- the steps at all ends, said or not -/
def M0 (C : V) (T : List Opr) (E : List Int) : List St := E.map fun e => ⟨e, fT C T e⟩
theorem m0_at {C : V} {T : List Opr} {E : List Int} {i : Nat} {x : Int} (h : E[i]? = some x) : (M0 C T E)[i]? = some ⟨x, fT C T x⟩ := by unfold M0; rw [List.getElem?_map, h]; rfl
theorem m0_of {C : V} {T : List Opr} {E : List Int} {i : Nat} {s : St} (h : (M0 C T E)[i]? = some s) : E[i]? = some s.at' ∧ s.fr = fT C T s.at' := by
  unfold M0 at h
  rw [List.getElem?_map] at h
  cases q : E[i]? with
  | none => rw [q] at h; cases h
  | some x => rw [q] at h; cases h; exact ⟨rfl, rfl⟩
theorem m0_length (C : V) (T : List Opr) (E : List Int) : (M0 C T E).length = E.length := by unfold M0; simp
theorem m0_srt {C : V} {T : List Opr} {E : List Int} (h : Ris E) : Srt (M0 C T E) := srt_of fun _ _ _ _ hij hi hj => h.lt hij (m0_of hi).1 (m0_of hj).1
theorem m0_fa {C : V} {T : List Opr} {E : List Int} (h : Ends T E) (u : Int) : fa C (M0 C T E) u = fT C T u := by
  obtain ⟨k, hk⟩ := isK_ex (m0_srt (C := C) (T := T) h.r) u
  rw [fa_k hk]
  have hgt : ∀ e ∈ E, ∀ x, (k = 0 ∨ ∃ j, k = j + 1 ∧ E[j]? = some x) → k ≠ 0 → ¬ (x < e ∧ e ≤ u) := fun e he x hx h0 => by
    rcases hx with hx | ⟨j, hj, hjx⟩
    · exact absurd hx h0
    · rintro ⟨q1, q2⟩
      obtain ⟨i, hi⟩ := List.getElem?_of_mem he
      by_cases hik : i < k
      · by_cases e' : i = j
        · subst e'; rw [hi] at hjx; cases hjx; omega
        · have := h.r.lt (show i < j by omega) hi hjx; omega
      · have := hk.hi i _ (m0_at hi) (by omega)
        simp only at this
        omega
  cases k with
  | zero =>
    rw [pv_zero]
    symm
    refine fT_none fun o ho q => ?_
    obtain ⟨i, hi⟩ := List.getElem?_of_mem (h.a o ho).1
    have := hk.hi i _ (m0_at hi) (Nat.zero_le _)
    simp only at this
    omega
  | succ j =>
    have hl := hk.le
    rw [m0_length] at hl
    have hj := List.getElem?_eq_getElem (show j < E.length by omega)
    rw [pv_succ (m0_at hj)]
    simp only
    refine fT_const h ?_ fun e he => hgt e he _ (.inr ⟨j, rfl, hj⟩) (by omega)
    have := hk.lo j _ (m0_at hj) (by omega)
    simpa using this
theorem fT_end {C : V} {T : List Opr} {E : List Int} (h : Ends T E) {u : Int} (hu : ∀ e ∈ E, e ≤ u) : fT C T u = C := fT_none fun o ho q => by
  have := hu _ (h.a o ho).2
  omega
theorem m0_fin {C : V} {T : List Opr} {E : List Int} (h : Ends T E) : pv C (M0 C T E) (M0 C T E).length = C := by
  rw [m0_length]
  cases hl : E.length with
  | zero => rw [pv_zero]
  | succ j =>
    have hj := List.getElem?_eq_getElem (show j < E.length by omega)
    rw [pv_succ (m0_at hj)]
    refine fT_end h fun e he => ?_
    obtain ⟨i, hi⟩ := List.getElem?_of_mem he
    have hil := (List.getElem?_eq_some_iff.1 hi).1
    by_cases e' : i = j
    · subst e'; rw [hj] at hi; cases hi; exact Int.le_refl _
    · have := h.r.lt (show i < j by omega) hi hj; omega

/-! ### the least, all ends gone through -/
structure Lri (C : V) (M : List St) (a b : Int) (k0 i : Nat) (m : V) : Prop where
  k : IsK M a k0
  il : i ≤ M.length
  le : ∀ u k, a ≤ u → u < b → IsK M u k → k ≤ max i k0 → m.le (pv C M k)
  xa : ∃ u, a ≤ u ∧ u < b ∧ (fa C M u).a = m.a
  xb : ∃ u, a ≤ u ∧ u < b ∧ (fa C M u).b = m.b
  xc : ∃ u, a ≤ u ∧ u < b ∧ (fa C M u).c = m.c
  xd : ∃ u, a ≤ u ∧ u < b ∧ (fa C M u).d = m.d
theorem lri_start {C : V} {M : List St} {a b : Int} {k : Nat} (h : IsK M a k) (hab : a < b) : Lri C M a b k 0 (pv C M k) := by
  have s := lsq_start (C := C) h hab
  exact ⟨h, Nat.zero_le _, fun u j h1 _ hj hk => s.le u j h1 hj (by omega), s.xa, s.xb, s.xc, s.xd⟩
theorem Lri.skip {C : V} {M : List St} {a b : Int} {k0 i : Nat} {m : V} {s : St} (h : Lri C M a b k0 i m) (hi : M[i]? = some s) (hs : ¬ (a < s.at' ∧ s.at' < b)) : Lri C M a b k0 (i + 1) m := by
  refine ⟨h.k, (List.getElem?_eq_some_iff.1 hi).1, fun u k h1 h2 hk hle => ?_, h.xa, h.xb, h.xc, h.xd⟩
  by_cases q : k ≤ max i k0
  · exact h.le u k h1 h2 hk q
  · have e1 := hk.lo i s hi (by omega)
    by_cases e2 : s.at' ≤ a
    · have := h.k.hi i s hi (by omega)
      omega
    · omega
theorem Lri.step {C : V} {M : List St} {a b : Int} {k0 i : Nat} {m : V} {s : St} (hM : Srt M) (h : Lri C M a b k0 i m) (hi : M[i]? = some s) (hs : a < s.at' ∧ s.at' < b) : Lri C M a b k0 (i + 1) (m.mn s.fr) := by
  have e : fa C M s.at' = s.fr := fa_at hM hi
  have pick : ∀ (x y : Int) (F : V → Int), (∃ u, a ≤ u ∧ u < b ∧ F (fa C M u) = x) → F s.fr = y → ∃ u, a ≤ u ∧ u < b ∧ F (fa C M u) = min x y := fun x y F h1 h2 => by
    obtain ⟨u, u1, u2, u3⟩ := h1
    by_cases q : x ≤ y
    · exact ⟨u, u1, u2, by omega⟩
    · exact ⟨s.at', by omega, hs.2, by rw [e]; omega⟩
  have mn1 : (m.mn s.fr).le m := by unfold V.le V.mn; simp only; omega
  have mn2 : (m.mn s.fr).le s.fr := by unfold V.le V.mn; simp only; omega
  refine ⟨h.k, (List.getElem?_eq_some_iff.1 hi).1, fun u k h1 h2 hk hle => ?_, pick _ _ V.a h.xa rfl, pick _ _ V.b h.xb rfl, pick _ _ V.c h.xc rfl, pick _ _ V.d h.xd rfl⟩
  by_cases q : k ≤ max i k0
  · exact V.le_trans mn1 (h.le u k h1 h2 hk q)
  · obtain rfl : k = i + 1 := by omega
    rw [pv_succ hi]
    exact mn2
theorem Lri.done {C : V} {M : List St} {a b : Int} {k0 : Nat} {m : V} (hM : Srt M) (h : Lri C M a b k0 M.length m) : Lst (fa C M) a b m := by
  refine ⟨fun u h1 h2 => ?_, h.xa, h.xb, h.xc, h.xd⟩
  obtain ⟨k, hk⟩ := isK_ex hM u
  rw [fa_k hk]
  exact h.le u k h1 h2 hk (by have := hk.le; omega)
/-! ### steps that say something new -/
def rdd : V → List St → List St
  | _, [] => []
  | C, s :: r => if s.fr = C then rdd C r else s :: rdd s.fr r
theorem rdd_mem : ∀ {C : V} {L : List St} {s : St}, s ∈ rdd C L → s ∈ L
  | C, [], s, h => by cases h
  | C, x :: r, s, h => by
    unfold rdd at h
    split at h
    · exact List.mem_cons_of_mem _ (rdd_mem h)
    · rcases List.mem_cons.1 h with rfl | h
      · simp
      · exact List.mem_cons_of_mem _ (rdd_mem h)
theorem rdd_srt : ∀ {C : V} {L : List St}, Srt L → Srt (rdd C L)
  | C, [], _ => List.Pairwise.nil
  | C, x :: r, h => by
    obtain ⟨h1, h2⟩ := List.pairwise_cons.1 h
    unfold rdd
    split
    · exact rdd_srt h2
    · exact List.pairwise_cons.2 ⟨fun y hy => h1 y (rdd_mem hy), rdd_srt h2⟩
theorem rdd_fa : ∀ {C : V} {L : List St}, Srt L → ∀ u, fa C (rdd C L) u = fa C L u
  | C, [], _, u => rfl
  | C, x :: r, h, u => by
    obtain ⟨h1, h2⟩ := List.pairwise_cons.1 h
    unfold rdd
    split
    · rename_i e
      rw [rdd_fa h2]
      conv => rhs; unfold fa
      by_cases q : x.at' ≤ u
      · rw [if_pos q, e]
      · rw [if_neg q]; exact fa_low h (by omega) C
    · unfold fa
      rw [rdd_fa h2]
theorem rdd_nod : ∀ {C : V} {L : List St}, NdP C (rdd C L) fun _ => False
  | C, [], i, s, hs, _ => by simp [rdd] at hs
  | C, x :: r, i, s, hs, _ => by
    unfold rdd at hs ⊢
    split at hs
    · rename_i e; rw [if_pos e]; exact rdd_nod i s hs id
    · rename_i e
      rw [if_neg e]
      cases i with
      | zero => simp at hs; subst hs; rw [pv_zero]; exact e
      | succ i => rw [pv_cons]; exact rdd_nod i s (by simpa using hs) id
theorem rdd_snoc : ∀ {C : V} {L : List St} {s : St}, rdd C (L ++ [s]) = if s.fr = pv C L L.length then rdd C L else rdd C L ++ [s]
  | C, [], s => by simp [rdd, pv]
  | C, x :: r, s => by
    rw [List.cons_append, List.length_cons, pv_cons]
    unfold rdd
    by_cases e : x.fr = C
    · rw [if_pos e, if_pos e, rdd_snoc, e]
    · rw [if_neg e, if_neg e, rdd_snoc]
      split <;> rfl
end Go.Proofs.Ytkfpbpkadkhhnaa
