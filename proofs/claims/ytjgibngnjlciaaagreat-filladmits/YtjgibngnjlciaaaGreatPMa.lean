/-
  Plain mathematics: steps, and what is free at a tick by them.
-/
import Derived.Test.YtjgibngnjlciaaaGreatVc
namespace Go.Proofs.YtjgibngnjlciaaaGreat

/-! ### vectors -/
def V.le (v u : V) : Prop := v.a ≤ u.a ∧ v.b ≤ u.b ∧ v.c ≤ u.c ∧ v.d ≤ u.d
instance (v u : V) : Decidable (v.le u) := by unfold V.le; infer_instance
def V.mn (v u : V) : V := ⟨min v.a u.a, min v.b u.b, min v.c u.c, min v.d u.d⟩
theorem V.ext' {v u : V} (h1 : v.a = u.a) (h2 : v.b = u.b) (h3 : v.c = u.c) (h4 : v.d = u.d) : v = u := by cases v; cases u; simp_all
theorem V.le_refl (v : V) : v.le v := ⟨Int.le_refl _, Int.le_refl _, Int.le_refl _, Int.le_refl _⟩
theorem V.le_trans {v u x : V} (h : v.le u) (k : u.le x) : v.le x := by unfold V.le at *; omega
theorem V.le_antisymm {v u : V} (h : v.le u) (k : u.le v) : v = u := by unfold V.le at *; exact V.ext' (by omega) (by omega) (by omega) (by omega)
theorem V.sub_inj {v u x : V} (h : v.sub x = u.sub x) : v = u := by
  unfold V.sub at h
  injection h with h1 h2 h3 h4
  exact V.ext' (by omega) (by omega) (by omega) (by omega)
theorem ft_le (v u : V) : ft v.a v.b v.c v.d u.a u.b u.c u.d = decide (v.le u) := by rw [Bool.eq_iff_iff, decide_eq_true_iff]; unfold ft V.le; simp
theorem eq4_V (v u : V) : (v.a == u.a && (v.b == u.b && (v.c == u.c && v.d == u.d))) = decide (v = u) := by
  rw [Bool.eq_iff_iff]
  simp
  constructor
  · rintro ⟨h1, h2, h3, h4⟩; exact V.ext' h1 h2 h3 h4
  · rintro rfl; simp
theorem V.ok_iff {v : V} : v.ok = true ↔ (0 ≤ v.a ∧ v.a ≤ 1099511627776) ∧ (0 ≤ v.b ∧ v.b ≤ 1099511627776) ∧ (0 ≤ v.c ∧ v.c ≤ 1099511627776) ∧ (0 ≤ v.d ∧ v.d ≤ 1099511627776) := by
  unfold V.ok fm okI
  simp
theorem V.ok_sub {v u : V} (h : v.ok = true) (k : u.ok = true) (l : u.le v) : (v.sub u).ok = true := by
  rw [V.ok_iff] at *
  unfold V.le at l
  unfold V.sub
  simp only
  omega

/-! ### steps -/
structure Stp where
  at' : Int
  fr : V
  deriving Inhabited, DecidableEq
/-- what is free ahead of the step at place i -/
def pv (C : V) : List Stp → Nat → V
  | _, 0 => C
  | [], _ + 1 => C
  | s :: r, i + 1 => pv s.fr r i
theorem pv_zero (C : V) (L : List Stp) : pv C L 0 = C := by cases L <;> rfl
theorem pv_cons (C : V) (s : Stp) (r : List Stp) (i : Nat) : pv C (s :: r) (i + 1) = pv s.fr r i := rfl
theorem pv_succ : ∀ {C : V} {L : List Stp} {i : Nat} {s : Stp}, L[i]? = some s → pv C L (i + 1) = s.fr
  | C, [], i, s, h => by simp at h
  | C, u :: r, 0, s, h => by simp at h; subst h; exact pv_zero _ _
  | C, u :: r, i + 1, s, h => by rw [pv_cons]; exact pv_succ (by simpa using h)
/-- what is free at a tick -/
def fa (C : V) : List Stp → Int → V
  | [], _ => C
  | s :: r, t => if s.at' ≤ t then fa s.fr r t else C
def Srt (L : List Stp) : Prop := L.Pairwise fun s u => s.at' < u.at'
theorem Srt.lt {L : List Stp} (h : Srt L) {i j : Nat} {s u : Stp} (hij : i < j) (hi : L[i]? = some s) (hj : L[j]? = some u) : s.at' < u.at' := by
  obtain ⟨h1, rfl⟩ := List.getElem?_eq_some_iff.1 hi
  obtain ⟨h2, rfl⟩ := List.getElem?_eq_some_iff.1 hj
  exact List.pairwise_iff_getElem.1 h i j h1 h2 hij
theorem srt_of {L : List Stp} (h : ∀ (i j : Nat) (s u : Stp), i < j → L[i]? = some s → L[j]? = some u → s.at' < u.at') : Srt L :=
  List.pairwise_iff_getElem.2 fun i j h1 h2 hij => h i j _ _ hij (List.getElem?_eq_getElem h1) (List.getElem?_eq_getElem h2)
/-- k steps are not behind t -/
structure IsK (L : List Stp) (t : Int) (k : Nat) : Prop where
  le : k ≤ L.length
  lo : ∀ i s, L[i]? = some s → i < k → s.at' ≤ t
  hi : ∀ i s, L[i]? = some s → k ≤ i → t < s.at'
theorem IsK.tail {s : Stp} {r : List Stp} {t : Int} {k : Nat} (h : IsK (s :: r) t (k + 1)) : IsK r t k :=
  ⟨by have := h.le; simp at this; omega, fun i u hu hk => h.lo (i + 1) u (by simpa using hu) (by omega), fun i u hu hk => h.hi (i + 1) u (by simpa using hu) (by omega)⟩
theorem fa_k : ∀ {C : V} {L : List Stp} {t : Int} {k : Nat}, IsK L t k → fa C L t = pv C L k
  | C, [], t, k, h => by
    have := h.le
    simp at this
    subst this
    rfl
  | C, s :: r, t, 0, h => by
    unfold fa
    rw [if_neg (by have := h.hi 0 s rfl (Nat.le_refl _); omega), pv_zero]
  | C, s :: r, t, k + 1, h => by
    unfold fa
    rw [if_pos (h.lo 0 s rfl (by omega)), pv_cons]
    exact fa_k h.tail
theorem isK_ex : ∀ {L : List Stp} (_ : Srt L) (t : Int), ∃ k, IsK L t k
  | [], _, t => ⟨0, Nat.le_refl _, by simp, by simp⟩
  | s :: r, h, t => by
    obtain ⟨h1, h2⟩ := List.pairwise_cons.1 h
    by_cases hs : s.at' ≤ t
    · obtain ⟨k, hk⟩ := isK_ex (L := r) h2 t
      refine ⟨k + 1, by have := hk.le; simp; omega, fun i u hu hi => ?_, fun i u hu hi => ?_⟩
      · cases i with
        | zero => simp at hu; subst hu; exact hs
        | succ i => exact hk.lo i u (by simpa using hu) (by omega)
      · cases i with
        | zero => omega
        | succ i => exact hk.hi i u (by simpa using hu) (by omega)
    · refine ⟨0, Nat.zero_le _, fun i u hu hi => by omega, fun i u hu hi => ?_⟩
      rcases List.mem_cons.1 (List.mem_of_getElem? hu) with rfl | hm
      · omega
      · have := h1 u hm; omega
theorem fa_low {s : Stp} {r : List Stp} (h : Srt (s :: r)) {t : Int} (ht : t < s.at') (C' : V) : fa C' r t = C' := by
  have hk : IsK r t 0 := ⟨Nat.zero_le _, fun i u _ hi => by omega, fun i u hu _ => by
    have := (List.pairwise_cons.1 h).1 u (List.mem_of_getElem? hu)
    omega⟩
  rw [fa_k hk, pv_zero]
theorem fa_at {C : V} {L : List Stp} (h : Srt L) {i : Nat} {s : Stp} (hi : L[i]? = some s) : fa C L s.at' = s.fr := by
  have hk : IsK L s.at' (i + 1) := ⟨(List.getElem?_eq_some_iff.1 hi).1, fun j u hu hj => by
    by_cases e : j = i
    · subst e; rw [hi] at hu; cases hu; exact Int.le_refl _
    · exact Int.le_of_lt (h.lt (by omega) hu hi), fun j u hu hj => h.lt (by omega) hi hu⟩
  rw [fa_k hk, pv_succ hi]
/-- each step says something new, but those at places x and y -/
def Nd (C : V) (L : List Stp) (x y : Nat) : Prop := ∀ i s, L[i]? = some s → i ≠ x → i ≠ y → s.fr ≠ pv C L i
def NodP (C : V) (L : List Stp) : Prop := ∀ i s, L[i]? = some s → s.fr ≠ pv C L i
theorem NodP.tail {C : V} {s : Stp} {r : List Stp} (h : NodP C (s :: r)) : NodP s.fr r := fun i u hu => h (i + 1) u (by simpa using hu)
theorem uniq : ∀ {C : V} {L M : List Stp}, Srt L → Srt M → NodP C L → NodP C M → (∀ t, fa C L t = fa C M t) → L = M
  | C, [], [], _, _, _, _, _ => rfl
  | C, [], u :: q, _, hM, _, nM, h => by
    have := h u.at'
    rw [fa_at hM (i := 0) rfl] at this
    exact absurd this.symm (nM 0 u rfl)
  | C, s :: r, [], hL, _, nL, _, h => by
    have := h s.at'
    rw [fa_at hL (i := 0) rfl] at this
    exact absurd this (nL 0 s rfl)
  | C, s :: r, u :: q, hL, hM, nL, nM, h => by
    have e1 : s.at' = u.at' := by
      rcases Int.lt_trichotomy s.at' u.at' with hl | he | hg
      · have := h s.at'
        rw [fa_at hL (i := 0) rfl] at this
        rw [show fa C (u :: q) s.at' = C by unfold fa; rw [if_neg (by omega)]] at this
        exact absurd this (nL 0 s rfl)
      · exact he
      · have := h u.at'
        rw [fa_at hM (i := 0) rfl] at this
        rw [show fa C (s :: r) u.at' = C by unfold fa; rw [if_neg (by omega)]] at this
        exact absurd this.symm (nM 0 u rfl)
    have e2 : s.fr = u.fr := by
      have := h s.at'
      rw [fa_at hL (i := 0) rfl, e1, fa_at hM (i := 0) rfl] at this
      exact this
    obtain ⟨sa, sf⟩ := s
    obtain ⟨ua, uf⟩ := u
    simp only at e1 e2
    subst e1
    subst e2
    congr 1
    refine uniq (C := sf) (List.pairwise_cons.1 hL).2 (List.pairwise_cons.1 hM).2 nL.tail nM.tail fun t => ?_
    by_cases ht : sa ≤ t
    · have := h t
      unfold fa at this
      rwa [if_pos ht, if_pos ht] at this
    · rw [fa_low hL (by simp; omega), fa_low hM (by simp; omega)]

/-! ### a step put in -/
def insS (L : List Stp) (k : Nat) (s : Stp) : List Stp := L.take k ++ s :: L.drop k
theorem insS_cons (u : Stp) (r : List Stp) (k : Nat) (s : Stp) : insS (u :: r) (k + 1) s = u :: insS r k s := rfl
theorem insS_length (L : List Stp) (k : Nat) (s : Stp) (hk : k ≤ L.length) : (insS L k s).length = L.length + 1 := by unfold insS; simp; omega
theorem insS_get {L : List Stp} {k : Nat} {s : Stp} (hk : k ≤ L.length) (i : Nat) : (insS L k s)[i]? = if i < k then L[i]? else if i = k then some s else L[i - 1]? := by
  unfold insS
  rw [List.getElem?_append]
  simp only [List.length_take, Nat.min_eq_left hk]
  by_cases h1 : i < k
  · rw [if_pos h1, if_pos h1, List.getElem?_take, if_pos h1]
  · rw [if_neg h1, if_neg h1]
    by_cases h2 : i = k
    · subst h2; simp
    · rw [if_neg h2, show i - k = (i - 1 - k) + 1 by omega, List.getElem?_cons_succ, List.getElem?_drop, show k + (i - 1 - k) = i - 1 by omega]
theorem fa_ins : ∀ {C : V} {L : List Stp} {t : Int} {k : Nat}, IsK L t k → ∀ u, fa C (insS L k ⟨t, pv C L k⟩) u = fa C L u
  | C, L, t, 0, h, u => by
    unfold insS
    simp only [List.take_zero, List.nil_append, List.drop_zero, pv_zero]
    unfold fa
    by_cases hu : t ≤ u
    · rw [if_pos hu]
      cases L <;> rfl
    · rw [if_neg hu]
      cases L with
      | nil => rfl
      | cons s r =>
        have := h.hi 0 s rfl (Nat.le_refl _)
        simp only
        rw [if_neg (by omega)]
  | C, [], t, k + 1, h, u => by have := h.le; simp at this
  | C, s :: r, t, k + 1, h, u => by
    rw [pv_cons, insS_cons]
    unfold fa
    rw [fa_ins h.tail u]
theorem srt_ins {L : List Stp} {t : Int} {k : Nat} {v : V} (hs : Srt L) (h : IsK L t k) (hn : ∀ i s, L[i]? = some s → i < k → s.at' ≠ t) : Srt (insS L k ⟨t, v⟩) := by
  refine srt_of fun i j s u hij hi hj => ?_
  rw [insS_get h.le] at hi hj
  split at hi
  · rename_i h1
    split at hj
    · exact hs.lt hij hi hj
    · split at hj
      · cases hj
        have q1 := h.lo i s hi h1
        have q2 := hn i s hi h1
        simp only
        omega
      · exact hs.lt (by omega) hi hj
  · split at hi
    · cases hi
      rw [if_neg (by omega), if_neg (by omega)] at hj
      exact h.hi (j - 1) u hj (by omega)
    · rw [if_neg (by omega), if_neg (by omega)] at hj
      exact hs.lt (by omega) hi hj
theorem pv_ins_lo {C : V} {L : List Stp} {k : Nat} {s : Stp} (hk : k ≤ L.length) {i : Nat} (hi : i ≤ k) : pv C (insS L k s) i = pv C L i := by
  cases i with
  | zero => rw [pv_zero, pv_zero]
  | succ i =>
    have h1 : i < L.length := by omega
    rw [pv_succ (s := L[i]) (by rw [insS_get hk, if_pos (by omega), List.getElem?_eq_getElem h1]), pv_succ (List.getElem?_eq_getElem h1)]
theorem pv_ins_hi {C : V} {L : List Stp} {k : Nat} {s : Stp} (hk : k ≤ L.length) {i : Nat} (hi : k < i) (hl : i ≤ L.length) : pv C (insS L k s) (i + 1) = pv C L i := by
  obtain ⟨j, rfl⟩ : ∃ j, i = j + 1 := ⟨i - 1, by omega⟩
  have h1 : j < L.length := by omega
  rw [pv_succ (s := L[j]) (by rw [insS_get hk, if_neg (by omega), if_neg (by omega), Nat.add_sub_cancel, List.getElem?_eq_getElem h1]), pv_succ (List.getElem?_eq_getElem h1)]
theorem pv_ins_at {C : V} {L : List Stp} {k : Nat} {s : Stp} (hk : k ≤ L.length) : pv C (insS L k s) (k + 1) = s.fr := pv_succ (by rw [insS_get hk, if_neg (by omega), if_pos rfl])

/-! ### a step dropped -/
def delS (L : List Stp) (k : Nat) : List Stp := L.take k ++ L.drop (k + 1)
theorem delS_cons (u : Stp) (r : List Stp) (k : Nat) : delS (u :: r) (k + 1) = u :: delS r k := rfl
theorem delS_length (L : List Stp) (k : Nat) (hk : k < L.length) : (delS L k).length = L.length - 1 := by unfold delS; simp; omega
theorem delS_get {L : List Stp} {k : Nat} (hk : k < L.length) (i : Nat) : (delS L k)[i]? = if i < k then L[i]? else L[i + 1]? := by
  unfold delS
  rw [List.getElem?_append]
  simp only [List.length_take, Nat.min_eq_left (Nat.le_of_lt hk)]
  by_cases h1 : i < k
  · rw [if_pos h1, if_pos h1, List.getElem?_take, if_pos h1]
  · rw [if_neg h1, if_neg h1, List.getElem?_drop, show k + 1 + (i - k) = i + 1 by omega]
theorem srt_del {L : List Stp} {k : Nat} (hs : Srt L) (hk : k < L.length) : Srt (delS L k) := by
  refine srt_of fun i j s u hij hi hj => ?_
  rw [delS_get hk] at hi hj
  split at hi <;> split at hj <;> exact hs.lt (by omega) hi hj
theorem fa_del : ∀ {C : V} {L : List Stp} {k : Nat} {s : Stp}, Srt L → L[k]? = some s → s.fr = pv C L k → ∀ u, fa C (delS L k) u = fa C L u
  | C, [], k, s, _, h, _, u => by simp at h
  | C, x :: r, 0, s, hs, h, e, u => by
    simp at h
    subst h
    rw [pv_zero] at e
    show fa C r u = _
    conv => rhs; unfold fa
    by_cases hu : x.at' ≤ u
    · rw [if_pos hu, e]
    · rw [if_neg hu]
      exact fa_low hs (by omega) C
  | C, x :: r, k + 1, s, hs, h, e, u => by
    rw [delS_cons]
    unfold fa
    rw [fa_del (List.pairwise_cons.1 hs).2 (by simpa using h) e u]
theorem pv_del_lo {C : V} {L : List Stp} {k : Nat} (hk : k < L.length) {i : Nat} (hi : i ≤ k) : pv C (delS L k) i = pv C L i := by
  cases i with
  | zero => rw [pv_zero, pv_zero]
  | succ i =>
    have h1 : i < L.length := by omega
    rw [pv_succ (s := L[i]) (by rw [delS_get hk, if_pos (by omega), List.getElem?_eq_getElem h1]), pv_succ (List.getElem?_eq_getElem h1)]
theorem pv_del_hi {C : V} {L : List Stp} {k : Nat} (hk : k < L.length) {i : Nat} (hi : k < i) (hl : i < L.length) : pv C (delS L k) i = pv C L (i + 1) := by
  obtain ⟨j, rfl⟩ : ∃ j, i = j + 1 := ⟨i - 1, by omega⟩
  rw [pv_succ (s := L[j + 1]) (by rw [delS_get hk, if_neg (by omega), List.getElem?_eq_getElem hl]), pv_succ (List.getElem?_eq_getElem hl)]
end Go.Proofs.YtjgibngnjlciaaaGreat
