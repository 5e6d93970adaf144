/-
  Heaps in a row, as plain mathematics: one entry that stands wrong goes up or down.
-/
import Derived.Test.YtihjmigjphljnaaTOa
namespace Go.Proofs.Ytihjmigjphljnaa.Tk

def par (c : Nat) : Nat := (c - 1) / 2
def sw (v : Nat → Al) (i j : Nat) : Nat → Al := fun k => if k = j then v i else if k = i then v j else v k
def Hp (v : Nat → Al) (n : Nat) : Prop := ∀ c, 0 < c → c < n → le (v (par c)) (v c)
/-- in order but for the entry at i -/
structure Hx (v : Nat → Al) (n i : Nat) : Prop where
  e : ∀ c, 0 < c → c < n → c ≠ i → par c ≠ i → le (v (par c)) (v c)
  g : 0 < i → ∀ c, 0 < c → c < n → par c = i → le (v (par i)) (v c)
def Ch (v : Nat → Al) (n i : Nat) : Prop := ∀ c, 0 < c → c < n → par c = i → le (v i) (v c)
def Ed (v : Nat → Al) (i : Nat) : Prop := 0 < i → le (v (par i)) (v i)
theorem sw_l (v : Nat → Al) {i j : Nat} (h : i ≠ j) : sw v i j i = v j := by unfold sw; simp [h]
theorem sw_r (v : Nat → Al) (i j : Nat) : sw v i j j = v i := by unfold sw; simp
theorem sw_o (v : Nat → Al) {i j k : Nat} (h1 : k ≠ i) (h2 : k ≠ j) : sw v i j k = v k := by unfold sw; simp [h1, h2]
variable {v v' : Nat → Al} {n i j : Nat}
theorem hp_of (h : Hx v n i) (c : Ch v n i) (e : Ed v i) : Hp v n := fun k h0 h1 => by
  by_cases q : k = i
  · subst q; exact e h0
  · by_cases q' : par k = i
    · rw [q']; exact c k h0 h1 q'
    · exact h.e k h0 h1 q q'
theorem hx_of (h : Hp v n) (hv : ∀ k, k < n → k ≠ i → v' k = v k) : Hx v' n i := by
  refine ⟨fun c h0 h1 h2 h3 => ?_, fun h0 c h1 h2 h3 => ?_⟩
  · rw [hv c h1 h2, hv (par c) (by unfold par; omega) h3]
    exact h c h0 h1
  · have h4 : par i ≠ i := by unfold par; omega
    have h5 : c ≠ i := by rintro rfl; unfold par at h3; omega
    have h6 : par c < c := by unfold par; omega
    rw [hv c h2 h5, hv (par i) (by unfold par at *; omega) h4]
    have k1 := h c h1 h2
    rw [h3] at k1 h6
    exact le_trans (h i h0 (by omega)) k1
theorem hx_end (h : Hp v n) (hv : ∀ k, k < n → v' k = v k) : Hx v' (n + 1) n ∧ Ch v' (n + 1) n := by
  refine ⟨⟨fun c h0 h1 h2 h3 => ?_, fun h0 c h1 h2 h3 => ?_⟩, fun c h1 h2 h3 => ?_⟩
  · rw [hv c (by omega), hv (par c) (by unfold par; omega)]
    exact h c h0 (by omega)
  · unfold par at h3; omega
  · unfold par at h3; omega
theorem up_step (h : Hx v n j) (c : Ch v n j) (h0 : 0 < j) (h1 : j < n) (hl : lt (v j) (v (par j))) : Hx (sw v (par j) j) n (par j) ∧ Ch (sw v (par j) j) n (par j) := by
  have hp : par j < j := by unfold par; omega
  refine ⟨⟨fun c' c0 c1 c2 c3 => ?_, fun g0 c' c0 c1 c2 => ?_⟩, fun c' c0 c1 c2 => ?_⟩
  · have q : c' ≠ j := by rintro rfl; exact c3 rfl
    rw [sw_o v c2 q]
    by_cases q' : par c' = j
    · rw [q', sw_r]; exact h.g h0 c' c0 c1 q'
    · rw [sw_o v c3 q']; exact h.e c' c0 c1 q q'
  · have q1 : par (par j) ≠ par j := by unfold par at *; omega
    have q2 : par (par j) ≠ j := by unfold par at *; omega
    rw [sw_o v q1 q2]
    have k := h.e (par j) g0 (by omega) (by omega) q2
    by_cases q : c' = j
    · subst q; rw [sw_r]; exact k
    · have q3 : c' ≠ par j := by rintro rfl; exact q1 c2
      rw [sw_o v q3 q]
      have := h.e c' c0 c1 q (by omega)
      rw [c2] at this
      exact le_trans k this
  · rw [sw_l v (by omega)]
    by_cases q : c' = j
    · subst q; rw [sw_r]; exact lt_le hl
    · have q3 : c' ≠ par j := by rintro rfl; unfold par at *; omega
      rw [sw_o v q3 q]
      have := h.e c' c0 c1 q (by omega)
      rw [c2] at this
      exact le_trans (lt_le hl) this
theorem down_step (h : Hx v n i) (h0 : 0 < j) (h1 : j < n) (hj : par j = i) (hl : lt (v j) (v i)) (ho : ∀ c, 0 < c → c < n → par c = i → le (v j) (v c)) : Hx (sw v i j) n j ∧ Ed (sw v i j) j := by
  have hij : i < j := by unfold par at hj; omega
  refine ⟨⟨fun c c0 c1 c2 c3 => ?_, fun g0 c c0 c1 c2 => ?_⟩, fun _ => ?_⟩
  · by_cases q : c = i
    · subst q
      have q1 : par c ≠ c := by unfold par; omega
      rw [sw_l v (by omega), sw_o v q1 c3]
      exact h.g c0 j h0 h1 hj
    · rw [sw_o v q c2]
      by_cases q' : par c = i
      · rw [q', sw_l v (by omega)]; exact ho c c0 c1 q'
      · rw [sw_o v q' c3]; exact h.e c c0 c1 q q'
  · have q1 : c ≠ i := by rintro rfl; unfold par at *; omega
    have q2 : c ≠ j := by rintro rfl; unfold par at *; omega
    rw [hj, sw_l v (by omega), sw_o v q1 q2]
    have := h.e c c0 c1 q1 (by omega)
    rw [c2] at this
    exact this
  · rw [hj, sw_l v (by omega), sw_r]; exact lt_le hl
theorem hp_min (h : Hp v n) : ∀ k, k < n → le (v 0) (v k) := by
  intro k
  induction k using Nat.strongRecOn with
  | _ k ih =>
    intro hk
    rcases Nat.eq_zero_or_pos k with rfl | q
    · exact le_refl _
    · exact le_trans (ih (par k) (by unfold par; omega) (by unfold par; omega)) (h k q hk)

/-! ### rows -/
def d0 : Al := ⟨.empty, 0⟩
def gt (l : List Al) : Nat → Al := fun i => l.getD i d0
def lsw (l : List Al) (i j : Nat) : List Al := (l.set i (gt l j)).set j (gt l i)
theorem gt_some {l : List Al} {i : Nat} (h : i < l.length) : l[i]? = some (gt l i) := by unfold gt; rw [List.getD_eq_getElem?_getD, List.getElem?_eq_getElem h]; rfl
theorem gt_of {l : List Al} {i : Nat} {a : Al} (h : l[i]? = some a) : gt l i = a := by unfold gt; rw [List.getD_eq_getElem?_getD, h]; rfl
theorem lsw_length (l : List Al) (i j : Nat) : (lsw l i j).length = l.length := by unfold lsw; simp
theorem gt_set {l : List Al} {i : Nat} {a : Al} (h : i < l.length) (k : Nat) : gt (l.set i a) k = if k = i then a else gt l k := by
  unfold gt
  rw [List.getD_eq_getElem?_getD, List.getElem?_set]
  by_cases q : i = k
  · subst q; simp [h]
  · rw [if_neg q, if_neg (Ne.symm q), List.getD_eq_getElem?_getD]
theorem gt_lsw {l : List Al} {i j : Nat} (hi : i < l.length) (hj : j < l.length) : gt (lsw l i j) = sw (gt l) i j := by
  funext k
  unfold lsw sw
  rw [gt_set (by simpa using hj), gt_set hi]
theorem lsw_perm : ∀ {l : List Al} {i j : Nat}, i < l.length → j < l.length → (lsw l i j).Perm l := by
  intro l i j hi hj
  have e : ∀ (l : List Al) (i : Nat) (a : Al), i < l.length → (gt l i :: l.set i a).Perm (a :: l) := by
    intro l
    induction l with
    | nil => intro i a h; simp at h
    | cons x r ih =>
      intro i a h
      cases i with
      | zero => exact .swap _ _ _
      | succ i =>
        have h' : i < r.length := by simpa using h
        have e1 : gt (x :: r) (i + 1) = gt r i := rfl
        rw [e1]
        show (gt r i :: x :: r.set i a).Perm (a :: x :: r)
        exact (List.Perm.swap _ _ _).trans (((ih i a h').cons x).trans (.swap _ _ _))
  have k1 := e (l.set i (gt l j)) j (gt l i) (by simpa using hj)
  have k2 := e l i (gt l j) hi
  have e3 : gt (l.set i (gt l j)) j = gt l j := by rw [gt_set hi]; split
                                                   · rfl
                                                   · rfl
  rw [e3] at k1
  exact (List.perm_cons _).1 (k1.trans k2)
end Go.Proofs.Ytihjmigjphljnaa.Tk
