/-
  Plain mathematics of an interval heap: the places of a line, swapped and turned; what is put behind, what is taken off.
-/
import Derived.Test.YthlbeofonbbbdaaHa
namespace Go.Proofs.Ythlbeofonbbbdaa

/-- the place of a pair's end -/
def P (n s p : Nat) : Nat := min (2 * p + s) (n - 1)
theorem P_lt {n s p : Nat} (h : 2 * p < n) : P n s p < n := by unfold P; omega
theorem P_half {n s p : Nat} (h : 2 * p < n) (hs : s ≤ 1) : P n s p / 2 = p := by unfold P; omega
def sw (u : Nat → Int) (i j : Nat) : Nat → Int := fun k => if k = i then u j else if k = j then u i else u k
def AA (n s : Nat) (v : Nat → Int) (p : Nat) : Int := if 2 * p < n then (if s = 0 then v (P n 0 p) else - v (P n 1 p)) else 0
def BB (n s : Nat) (v : Nat → Int) (p : Nat) : Int := if 2 * p < n then (if s = 0 then v (P n 1 p) else - v (P n 0 p)) else 0
def tn (n : Nat) (v : Nat → Int) (d : Nat) : Nat → Int := if v (P n 1 d) < v (P n 0 d) then sw v (P n 0 d) (P n 1 d) else v
/-- which comes out first -/
def sg (s : Nat) (x : Int) : Int := if s = 0 then x else - x
section
variable {n s c d p : Nat} {v : Nat → Int} {Q : Nat → Prop}
theorem AA_eq (h : 2 * p < n) (hs : s ≤ 1) : AA n s v p = sg s (v (P n s p)) := by
  unfold AA sg
  rcases (by omega : s = 0 ∨ s = 1) with rfl | rfl <;> simp [h]
theorem sw_at (i j : Nat) : sw v i j i = v j := by unfold sw; rw [if_pos rfl]
theorem sw_at2 (i j : Nat) : sw v i j j = v i := by unfold sw; split <;> simp_all
theorem sw_other (i j : Nat) {k : Nat} (h1 : k ≠ i) (h2 : k ≠ j) : sw v i j k = v k := by unfold sw; rw [if_neg h1, if_neg h2]
structure Own (n s : Nat) (v v' : Nat → Int) (c d : Nat) : Prop where
  ac : AA n s v' c = AA n s v d
  ad : AA n s v' d = AA n s v c
  ax : ∀ x, x ≠ c → x ≠ d → AA n s v' x = AA n s v x
  bd : 2 * d + 1 = n → BB n s v' d = AA n s v c
  bx : ∀ x, (x ≠ d ∨ 2 * d + 1 < n) → BB n s v' x = BB n s v x
theorem own_swap (hs : s ≤ 1) (hc : 2 * c + 1 < n) (hd : 2 * d < n) : Own n s v (sw v (P n s c) (P n s d)) c d := by
  rcases (by omega : s = 0 ∨ s = 1) with rfl | rfl
  · refine ⟨?_, ?_, fun x h1 h2 => ?_, fun h1 => ?_, fun x h1 => ?_⟩
    · unfold AA; rw [if_pos (by omega), if_pos rfl, if_pos hd, if_pos rfl, sw_at]
    · unfold AA; rw [if_pos hd, if_pos rfl, if_pos (by omega), if_pos rfl, sw_at2]
    · unfold AA
      by_cases hx : 2 * x < n
      · rw [if_pos hx, if_pos rfl, if_pos hx, if_pos rfl, sw_other _ _ (by unfold P; omega) (by unfold P; omega)]
      · rw [if_neg hx, if_neg hx]
    · unfold AA BB
      rw [if_pos hd, if_pos rfl, if_pos (by omega), if_pos rfl, show P n 1 d = P n 0 d by unfold P; omega, sw_at2]
    · unfold BB
      by_cases hx : 2 * x < n
      · rw [if_pos hx, if_pos rfl, if_pos hx, if_pos rfl, sw_other _ _ (by unfold P; omega) (by unfold P; omega)]
      · rw [if_neg hx, if_neg hx]
  · have e1 : (1 : Nat) ≠ 0 := by decide
    refine ⟨?_, ?_, fun x h1 h2 => ?_, fun h1 => ?_, fun x h1 => ?_⟩
    · unfold AA; rw [if_pos (by omega), if_neg e1, if_pos hd, if_neg e1, sw_at]
    · unfold AA; rw [if_pos hd, if_neg e1, if_pos (by omega), if_neg e1, sw_at2]
    · unfold AA
      by_cases hx : 2 * x < n
      · rw [if_pos hx, if_neg e1, if_pos hx, if_neg e1, sw_other _ _ (by unfold P; omega) (by unfold P; omega)]
      · rw [if_neg hx, if_neg hx]
    · unfold AA BB
      rw [if_pos hd, if_neg e1, if_pos (by omega), if_neg e1, show P n 0 d = P n 1 d by unfold P; omega, sw_at2]
    · unfold BB
      by_cases hx : 2 * x < n
      · rw [if_pos hx, if_neg e1, if_pos hx, if_neg e1, sw_other _ _ (by unfold P; omega) (by unfold P; omega)]
      · rw [if_neg hx, if_neg hx]
theorem AA_0 (h : 2 * p < n) : AA n 0 v p = v (2 * p) := by unfold AA; rw [if_pos h, if_pos rfl]; congr 1; unfold P; omega
theorem BB_0 (h : 2 * p < n) : BB n 0 v p = v (P n 1 p) := by unfold BB; rw [if_pos h, if_pos rfl]
theorem AA_1 : AA n 1 v = fun d => - BB n 0 v d := by
  funext d
  unfold AA BB
  by_cases h : 2 * d < n <;> simp [h]
theorem BB_1 : BB n 1 v = fun d => - AA n 0 v d := by
  funext d
  unfold AA BB
  by_cases h : 2 * d < n <;> simp [h]
theorem tn_0 (hd : 2 * d < n) : AA n 0 (tn n v d) d = min (AA n 0 v d) (BB n 0 v d) ∧ BB n 0 (tn n v d) d = max (AA n 0 v d) (BB n 0 v d) := by
  unfold tn AA BB
  simp only [hd, if_true]
  split
  · rw [sw_at, sw_at2]; omega
  · omega
theorem tn_x0 {x : Nat} (hx : x ≠ d) : AA n 0 (tn n v d) x = AA n 0 v x ∧ BB n 0 (tn n v d) x = BB n 0 v x := by
  unfold tn AA BB
  by_cases h : 2 * x < n
  · simp only [h, if_true]
    split
    · rename_i q
      by_cases hd : 2 * d < n
      · rw [sw_other _ _ (by unfold P; omega) (by unfold P; omega), sw_other _ _ (by unfold P; omega) (by unfold P; omega)]; exact ⟨rfl, rfl⟩
      · rw [show P n 1 d = P n 0 d by unfold P; omega] at q; omega
    · exact ⟨rfl, rfl⟩
  · simp only [h, if_false]; exact ⟨trivial, trivial⟩
theorem tn_s (hs : s ≤ 1) (hd : 2 * d < n) : AA n s (tn n v d) d = min (AA n s v d) (BB n s v d) ∧ BB n s (tn n v d) d = max (AA n s v d) (BB n s v d) := by
  have := tn_0 (v := v) hd
  rcases (by omega : s = 0 ∨ s = 1) with rfl | rfl
  · exact this
  · rw [AA_1, BB_1, AA_1, BB_1]; simp only; omega
theorem tn_xs (hs : s ≤ 1) {x : Nat} (hx : x ≠ d) : AA n s (tn n v d) x = AA n s v x ∧ BB n s (tn n v d) x = BB n s v x := by
  have := tn_x0 (n := n) (v := v) hx
  rcases (by omega : s = 0 ∨ s = 1) with rfl | rfl
  · exact this
  · rw [AA_1, BB_1, AA_1, BB_1]; simp only [this.1, this.2, and_self]

theorem snk_step (hs : s ≤ 1) (h : Snk n (AA n s v) (BB n s v) Q p c) (hd1 : 1 ≤ d) (hdn : 2 * d < n) (hdc : up d = c) (hlt : AA n s v d < AA n s v c) (hmin : ∀ e, 1 ≤ e → 2 * e < n → up e = c → AA n s v d ≤ AA n s v e) :
    Snk n (AA n s (tn n (sw v (P n s c) (P n s d)) d)) (BB n s (tn n (sw v (P n s c) (P n s d)) d)) Q p d := by
  have hcd : c < d := by have := up_lt hd1; omega
  have hcf : 2 * c + 1 < n := by rw [← hdc]; exact up_full hd1 hdn
  have O := own_swap (v := v) hs hcf hdn
  have T := tn_s (v := sw v (P n s c) (P n s d)) hs hdn
  have X : ∀ x, x ≠ d → _ := fun x hx => tn_xs (n := n) (v := sw v (P n s c) (P n s d)) hs hx
  refine h.step hd1 hdn hdc hlt hmin ?_ (fun hf => ?_) (fun h1 => ?_) (fun x x1 x2 => ?_) (fun x x1 => ?_)
  · rw [(X c (by omega)).1, O.ac]
  · rw [T.1, T.2, O.ad, O.bx d (.inr hf)]; exact ⟨rfl, rfl⟩
  · rw [T.1, T.2, O.ad, O.bd h1]; omega
  · rw [(X x x2).1, O.ax x x1 x2]
  · rw [(X x x1).2, O.bx x (.inl x1)]
theorem rsn_step (hs : s ≤ 1) (h : Rsn n (AA n s v) (BB n s v) Q p c) (hc1 : 1 ≤ c) (hlt : AA n s v c < AA n s v (up c)) :
    Rsn n (AA n s (sw v (P n s c) (P n s (up c)))) (BB n s (sw v (P n s c) (P n s (up c)))) Q p (up c) := by
  have hcn : 2 * c < n := by have := h.cp; have := h.hp; omega
  have hq := up_lt hc1
  have O := own_swap (v := v) hs (up_full hc1 hcn) hcn
  have e : sw v (P n s c) (P n s (up c)) = sw v (P n s (up c)) (P n s c) := by
    funext k
    unfold sw
    split <;> split <;> simp_all
  rw [e]
  exact h.step hc1 hlt O.ad O.ac (fun x x1 x2 => O.ax x x2 x1) O.bd O.bx
/-- the line as an interval heap -/
def Vv (n : Nat) (v : Nat → Int) : Prop := V n (AA n 0 v) (BB n 0 v)
def uo (v : Nat → Int) (i : Nat) (x : Int) : Nat → Int := fun k => if k = i then x else v k
theorem uo_at (i : Nat) (x : Int) : uo v i x i = x := by unfold uo; rw [if_pos rfl]
theorem uo_other {i k : Nat} (x : Int) (h : k ≠ i) : uo v i x k = v k := by unfold uo; rw [if_neg h]
theorem vv_start {at' : Nat} {x : Int} (h : Vv n (uo v at' x)) (ha : at' < n) (hp : at' / 2 = p) : Snk n (AA n 0 (tn n v p)) (BB n 0 (tn n v p)) (fun d => d ≠ p ∧ up d ≠ p) p p := by
  have h2 : 2 * p < n := by omega
  have T := tn_0 (v := v) h2
  have hr := V.r1 h p h2
  have hA : AA n 0 (uo v at' x) p = uo v at' x (2 * p) := AA_0 h2
  have hB : BB n 0 (uo v at' x) p = uo v at' x (P n 1 p) := BB_0 h2
  have kA : AA n 0 v p = v (2 * p) := AA_0 h2
  have kB : BB n 0 v p = v (P n 1 p) := BB_0 h2
  refine V.start h h2 (by omega) (fun e => ?_) (fun e => ?_) (fun y hy => ?_) (fun y hy => ?_)
  · rw [show P n 1 p = 2 * p by unfold P; omega] at kB
    omega
  · rw [show P n 1 p = 2 * p + 1 by unfold P; omega] at kB hB
    rcases (by omega : at' = 2 * p ∨ at' = 2 * p + 1) with e1 | e1
    · rw [uo_other x (by omega)] at hB
      omega
    · rw [uo_other x (by omega)] at hA
      omega
  · rw [(tn_x0 hy).1]
    unfold AA
    by_cases q : 2 * y < n
    · simp only [q, if_true]; rw [uo_other x (by unfold P; omega)]
    · simp only [q, if_false]
  · rw [(tn_x0 hy).2]
    unfold BB
    by_cases q : 2 * y < n
    · simp only [q, if_true]; rw [uo_other x (by unfold P; omega)]
    · simp only [q, if_false]
theorem vv_turn (h : Fin' n (AA n 0 v) (BB n 0 v) (fun d => d ≠ p ∧ up d ≠ p) p) : Snk n (AA n 1 v) (BB n 1 v) (fun _ => True) p p := by
  rw [AA_1, BB_1]; exact h.turn
theorem vv_end (h : Fin' n (AA n 1 v) (BB n 1 v) (fun _ => True) p) : Vv n v := by
  have := h.v.neg
  rw [AA_1, BB_1] at this
  simp only [Int.neg_neg] at this
  exact this
theorem vv_least (h : Vv n v) {i : Nat} (hi : i < n) : v 0 ≤ v i ∧ v i ≤ v (P n 1 0) := by
  have h0 := V.least h (i / 2) (by omega)
  have h1 := V.r1 h (i / 2) (by omega)
  have a0 : AA n 0 v 0 = v (2 * 0) := AA_0 (by omega)
  have b0 : BB n 0 v 0 = v (P n 1 0) := BB_0 (by omega)
  have a1 : AA n 0 v (i / 2) = v (2 * (i / 2)) := AA_0 (by omega)
  have b1 : BB n 0 v (i / 2) = v (P n 1 (i / 2)) := BB_0 (by omega)
  rw [Nat.mul_zero] at a0
  rcases (by omega : i = 2 * (i / 2) ∨ i = 2 * (i / 2) + 1) with e | e
  · rw [← e] at a1; omega
  · rw [show P n 1 (i / 2) = i by unfold P; omega] at b1; omega
theorem vv_same {v' : Nat → Int} (h : Vv n v) (e : ∀ i, i < n → v' i = v i) : Vv n v' := by
  have ea : AA n 0 v' = AA n 0 v := by
    funext d
    unfold AA
    by_cases q : 2 * d < n
    · simp only [q, if_true]; exact e _ (P_lt q)
    · simp only [q, if_false]
  have eb : BB n 0 v' = BB n 0 v := by
    funext d
    unfold BB
    by_cases q : 2 * d < n
    · simp only [q, if_true]; exact e _ (P_lt q)
    · simp only [q, if_false]
  unfold Vv
  rw [ea, eb]
  exact h
theorem vv_zero : Vv 0 v := ⟨fun d h => by omega, fun d h => by omega, fun d _ h => by omega, fun d _ h => by omega⟩
/-- taken off at the end -/
theorem vv_off (h : Vv (n + 1) v) : Vv n v := by
  have A : ∀ d, 2 * d < n → AA n 0 v d = AA (n + 1) 0 v d := fun d hd => by rw [AA_0 hd, AA_0 (by omega)]
  have B : ∀ d, 2 * d + 1 < n → BB n 0 v d = BB (n + 1) 0 v d := fun d hd => by rw [BB_0 (by omega), BB_0 (by omega)]; congr 1; unfold P; omega
  have S : ∀ d, 2 * d + 1 = n → BB n 0 v d = AA (n + 1) 0 v d := fun d hd => by rw [BB_0 (by omega), AA_0 (by omega)]; congr 1; unfold P; omega
  have r1 : ∀ d, 2 * d < n → AA (n + 1) 0 v d ≤ BB n 0 v d ∧ BB n 0 v d ≤ BB (n + 1) 0 v d := fun d hd => by
    have := V.r1 h d (by omega)
    by_cases q : 2 * d + 1 = n
    · rw [S d q]; omega
    · rw [B d (by omega)]; omega
  refine ⟨fun d hd => ?_, fun d hd => ?_, fun d d1 hd => ?_, fun d d1 hd => ?_⟩
  · rw [A d (by omega), S d hd]
  · rw [A d hd]; exact (r1 d hd).1
  · rw [A d hd, A (up d) (by have := up_lt d1; omega)]; exact V.rs h d d1 (by omega)
  · have hf := up_full d1 hd
    rw [B (up d) (by omega)]
    have := V.ro h d d1 (by omega)
    have := (r1 d hd).2
    omega
/-- put behind: some number fits -/
theorem vv_on (h : Vv n v) : ∃ x, Vv (n + 1) (uo v n x) := by
  by_cases hn : n = 0
  · subst hn
    refine ⟨0, ⟨fun d hd => ?_, fun d hd => ?_, fun d d1 hd => by omega, fun d d1 hd => by omega⟩⟩
    · have : d = 0 := by omega
      subst this
      rw [AA_0 (by omega), BB_0 (by omega)]; rfl
    · have : d = 0 := by omega
      subst this
      rw [AA_0 (by omega), BB_0 (by omega)]; exact Int.le_refl _
  · by_cases ho : n % 2 = 1
    · obtain ⟨p, rfl⟩ : ∃ p, n = 2 * p + 1 := ⟨n / 2, by omega⟩
      refine ⟨v (2 * p), ?_⟩
      have A : ∀ d, 2 * d < 2 * p + 1 → AA (2 * p + 1 + 1) 0 (uo v (2 * p + 1) (v (2 * p))) d = AA (2 * p + 1) 0 v d := fun d hd => by rw [AA_0 (by omega), AA_0 hd, uo_other _ (by omega)]
      have B : ∀ d, 2 * d < 2 * p + 1 → BB (2 * p + 1 + 1) 0 (uo v (2 * p + 1) (v (2 * p))) d = BB (2 * p + 1) 0 v d := fun d hd => by
        rw [BB_0 (by omega), BB_0 hd]
        by_cases q : d = p
        · subst q
          rw [show P (2 * d + 1 + 1) 1 d = 2 * d + 1 by unfold P; omega, uo_at, show P (2 * d + 1) 1 d = 2 * d by unfold P; omega]
        · rw [show P (2 * p + 1 + 1) 1 d = 2 * d + 1 by unfold P; omega, show P (2 * p + 1) 1 d = 2 * d + 1 by unfold P; omega, uo_other _ (by omega)]
      refine ⟨fun d hd => by omega, fun d hd => ?_, fun d d1 hd => ?_, fun d d1 hd => ?_⟩
      · rw [A d (by omega), B d (by omega)]; exact V.r1 h d (by omega)
      · have := up_lt d1
        rw [A d (by omega), A _ (by omega)]; exact V.rs h d d1 (by omega)
      · have := up_lt d1
        rw [B d (by omega), B _ (by omega)]; exact V.ro h d d1 (by omega)
    · obtain ⟨p, rfl⟩ : ∃ p, n = 2 * p := ⟨n / 2, by omega⟩
      have p1 : 1 ≤ p := by omega
      have hup := up_lt p1
      refine ⟨v (2 * up p), ?_⟩
      have A : ∀ d, 2 * d < 2 * p → AA (2 * p + 1) 0 (uo v (2 * p) (v (2 * up p))) d = AA (2 * p) 0 v d := fun d hd => by rw [AA_0 (by omega), AA_0 hd, uo_other _ (by omega)]
      have B : ∀ d, 2 * d < 2 * p → BB (2 * p + 1) 0 (uo v (2 * p) (v (2 * up p))) d = BB (2 * p) 0 v d := fun d hd => by
        rw [BB_0 (by omega), BB_0 hd]
        rw [show P (2 * p + 1) 1 d = 2 * d + 1 by unfold P; omega, show P (2 * p) 1 d = 2 * d + 1 by unfold P; omega, uo_other _ (by omega)]
      have Ap : AA (2 * p + 1) 0 (uo v (2 * p) (v (2 * up p))) p = AA (2 * p) 0 v (up p) := by rw [AA_0 (by omega), uo_at, AA_0 (by omega)]
      have Bp : BB (2 * p + 1) 0 (uo v (2 * p) (v (2 * up p))) p = AA (2 * p) 0 v (up p) := by rw [BB_0 (by omega), show P (2 * p + 1) 1 p = 2 * p by unfold P; omega, uo_at, AA_0 (by omega)]
      refine ⟨fun d hd => ?_, fun d hd => ?_, fun d d1 hd => ?_, fun d d1 hd => ?_⟩
      · have : d = p := by omega
        subst this
        rw [Ap, Bp]
      · by_cases e : d = p
        · subst e; rw [Ap, Bp]; exact Int.le_refl _
        · rw [A d (by omega), B d (by omega)]; exact V.r1 h d (by omega)
      · have := up_lt d1
        by_cases e : d = p
        · subst e; rw [Ap, A _ (by omega)]; exact Int.le_refl _
        · rw [A d (by omega), A _ (by omega)]; exact V.rs h d d1 (by omega)
      · have := up_lt d1
        by_cases e : d = p
        · subst e; rw [Bp, B _ (by omega)]; exact V.r1 h (up d) (by omega)
        · rw [B d (by omega), B _ (by omega)]; exact V.ro h d d1 (by omega)
end
end Go.Proofs.Ythlbeofonbbbdaa
