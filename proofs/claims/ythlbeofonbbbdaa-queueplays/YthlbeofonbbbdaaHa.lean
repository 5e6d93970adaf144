/-
  Plain mathematics of an interval heap: the ends of pairs as two functions of the pairs' numbers; what sinks, what rises.
-/
import Derived.WalkKit
namespace Go.Proofs.Ythlbeofonbbbdaa

/-- the pair above -/
def up (p : Nat) : Nat := (p - 1) / 2
theorem up_lt {p : Nat} (h : 1 ≤ p) : up p < p := by unfold up; omega
theorem up_le (p : Nat) : up p ≤ p := by unfold up; omega
theorem up_full {p n : Nat} (h : 1 ≤ p) (hn : 2 * p < n) : 2 * up p + 1 < n := by unfold up; omega

/-- pairs are intervals within their parents' -/
structure V (n : Nat) (a b : Nat → Int) : Prop where
  sg : ∀ d, 2 * d + 1 = n → a d = b d
  r1 : ∀ d, 2 * d < n → a d ≤ b d
  rs : ∀ d, 1 ≤ d → 2 * d < n → a (up d) ≤ a d
  ro : ∀ d, 1 ≤ d → 2 * d < n → b d ≤ b (up d)

structure Snk (n : Nat) (a b : Nat → Int) (Q : Nat → Prop) (p c : Nat) : Prop where
  pc : p ≤ c
  hc : 2 * c < n
  sg : ∀ d, 2 * d + 1 = n → a d = b d
  r1 : ∀ d, 2 * d < n → a d ≤ b d
  rs : ∀ d, 1 ≤ d → 2 * d < n → d ≠ p → up d ≠ c → a (up d) ≤ a d
  sk : 1 ≤ c → ∀ d, 1 ≤ d → 2 * d < n → up d = c → a (up c) ≤ a d
  sp : 1 ≤ p → ∀ d, 1 ≤ d → 2 * d < n → up d = p → a (up p) ≤ a d
  mv : c ≠ p → 1 ≤ p → a (up p) ≤ a p
  ro : ∀ d, Q d → 1 ≤ d → 2 * d < n → b d ≤ b (up d)
  so : 1 ≤ p → ∀ d, 1 ≤ d → 2 * d < n → up d = p → b d ≤ b (up p)
  lo : 1 ≤ p → 2 * p + 1 < n → a p ≤ b (up p)
  lo2 : 1 ≤ p → 2 * p + 1 < n → a (up p) ≤ b p
structure Rsn (n : Nat) (a b : Nat → Int) (Q : Nat → Prop) (p c : Nat) : Prop where
  cp : c ≤ p
  hp : 2 * p < n
  sg : ∀ d, 2 * d + 1 = n → a d = b d
  r1 : ∀ d, 2 * d < n → a d ≤ b d
  rs : ∀ d, 1 ≤ d → 2 * d < n → d ≠ c → a (up d) ≤ a d
  sk : 1 ≤ c → ∀ d, 1 ≤ d → 2 * d < n → up d = c → a (up c) ≤ a d
  lo2 : 1 ≤ c → 2 * c + 1 < n → a (up c) ≤ b c
  ro : ∀ d, Q d → 1 ≤ d → 2 * d < n → b d ≤ b (up d)
  so : 1 ≤ p → ∀ d, 1 ≤ d → 2 * d < n → up d = p → b d ≤ b (up p)
  lo : 1 ≤ p → 2 * p + 1 < n → a p ≤ b (up p)
structure Fin' (n : Nat) (a b : Nat → Int) (Q : Nat → Prop) (p : Nat) : Prop where
  hp : 2 * p < n
  sg : ∀ d, 2 * d + 1 = n → a d = b d
  r1 : ∀ d, 2 * d < n → a d ≤ b d
  rs : ∀ d, 1 ≤ d → 2 * d < n → a (up d) ≤ a d
  ro : ∀ d, Q d → 1 ≤ d → 2 * d < n → b d ≤ b (up d)
  so : 1 ≤ p → ∀ d, 1 ≤ d → 2 * d < n → up d = p → b d ≤ b (up p)
  lo : 1 ≤ p → 2 * p + 1 < n → a p ≤ b (up p)

section
variable {n p c d q : Nat} {a b a' b' : Nat → Int} {Q : Nat → Prop}
theorem Snk.step (h : Snk n a b Q p c) (hd1 : 1 ≤ d) (hdn : 2 * d < n) (hdc : up d = c) (hlt : a d < a c) (hmin : ∀ e, 1 ≤ e → 2 * e < n → up e = c → a d ≤ a e)
    (ac : a' c = a d) (ad : 2 * d + 1 < n → a' d = min (a c) (b d) ∧ b' d = max (a c) (b d)) (ads : 2 * d + 1 = n → a' d = a c ∧ b' d = a c) (ax : ∀ x, x ≠ c → x ≠ d → a' x = a x) (bx : ∀ x, x ≠ d → b' x = b x) : Snk n a' b' Q p d := by
  have hcd : c < d := by have := up_lt hd1; omega
  have r1c := h.r1 c h.hc
  have r1d := h.r1 d hdn
  have hsd := h.sg d
  have F : a d ≤ a' d ∧ a' d ≤ b' d ∧ b d ≤ b' d ∧ (b' d = a c ∨ b' d = b d) ∧ a' d ≤ a c := by
    by_cases hf : 2 * d + 1 < n
    · obtain ⟨e1, e2⟩ := ad hf
      rw [e1, e2]
      refine ⟨by omega, by omega, by omega, by omega, by omega⟩
    · have e0 : 2 * d + 1 = n := by omega
      obtain ⟨e1, e2⟩ := ads e0
      have := hsd e0
      rw [e1, e2]
      refine ⟨by omega, by omega, by omega, by omega, by omega⟩
  obtain ⟨F1, F2, F3, F4, F5⟩ := F
  have bc : b' c = b c := bx c (by omega)
  have hpd : p < d := by have := h.pc; omega
  refine ⟨by omega, hdn, fun x hx => ?_, fun x hx => ?_, fun x x1 x2 x3 x4 => ?_, fun _ x x1 x2 x3 => ?_, fun p1 x x1 x2 x3 => ?_, fun _ p1 => ?_, fun x q1 x1 x2 => ?_, fun p1 x x1 x2 x3 => ?_, fun p1 p2 => ?_, fun p1 p2 => ?_⟩
  · by_cases e : x = d
    · subst e; rw [(ads hx).1, (ads hx).2]
    · rw [bx x e, ax x (by omega) e]; exact h.sg x hx
  · by_cases e : x = d
    · subst e; exact F2
    · rw [bx x e]
      by_cases e2 : x = c
      · subst e2; rw [ac]; omega
      · rw [ax x e2 e]; exact h.r1 x hx
  · have hx := up_lt x1
    by_cases e : x = d
    · subst e; rw [hdc, ac]; exact F1
    · by_cases e2 : x = c
      · subst e2
        rw [ac, ax (up x) (by omega) (by omega)]
        exact h.sk (by omega) d hd1 hdn hdc
      · rw [ax x e2 e]
        by_cases e3 : up x = c
        · rw [e3, ac]; exact hmin x x1 x2 e3
        · rw [ax (up x) e3 x4]; exact h.rs x x1 x2 x3 e3
  · rw [hdc, ac, ax x (by have := up_lt x1; omega) (by have := up_lt x1; omega)]
    have := h.rs x x1 x2 (by have := up_lt x1; omega) (by omega)
    rw [x3] at this
    exact this
  · have hup := up_lt p1
    rw [ax (up p) (by have := h.pc; omega) (by omega)]
    have s0 := h.sp p1 x x1 x2 x3
    by_cases e : x = d
    · subst e; omega
    · by_cases e2 : x = c
      · subst e2
        rw [ac]
        have hne : x ≠ p := by have := up_lt x1; omega
        have m0 := h.mv hne p1
        have s1 := h.sk (by omega) d hd1 hdn hdc
        rw [x3] at s1
        omega
      · rw [ax x e2 e]; exact s0
  · rw [ax (up p) (by have := up_lt p1; have := h.pc; omega) (by have := up_lt p1; omega)]
    by_cases e : p = c
    · rw [e, ac, ← e]
      exact h.sp p1 d hd1 hdn (by omega)
    · rw [ax p e (by omega)]; exact h.mv (fun q => e q.symm) p1
  · by_cases e : x = d
    · subst e
      rw [hdc, bc]
      have := h.ro x q1 x1 x2
      rw [hdc] at this
      omega
    · rw [bx x e]
      have := h.ro x q1 x1 x2
      by_cases e2 : up x = d
      · rw [e2] at this ⊢; omega
      · rw [bx _ e2]; exact this
  · have hup := up_lt p1
    rw [bx (up p) (by omega)]
    by_cases e : x = d
    · subst e
      have e2 : c = p := by omega
      have l0 := h.lo p1 (by have := up_full x1 x2; rw [x3] at this; exact this)
      have s0 := h.so p1 x x1 x2 x3
      rw [e2] at F4
      omega
    · rw [bx x e]; exact h.so p1 x x1 x2 x3
  · rw [bx (up p) (by have := up_lt p1; omega)]
    have l0 := h.lo p1 p2
    by_cases e : p = c
    · rw [e, ac, ← e]; rw [← e] at hlt; omega
    · rw [ax p e (by omega)]; exact l0
  · rw [bx p (by omega), ax (up p) (by have := up_lt p1; have := h.pc; omega) (by have := up_lt p1; omega)]
    exact h.lo2 p1 p2
theorem Snk.done (h : Snk n a b Q p c) (hmin : ∀ e, 1 ≤ e → 2 * e < n → up e = c → a c ≤ a e) : Rsn n a b Q p p :=
  ⟨Nat.le_refl _, by have := h.pc; have := h.hc; omega, h.sg, h.r1, fun d d1 d2 d3 => by
    by_cases e : up d = c
    · rw [e]; exact hmin d d1 d2 e
    · exact h.rs d d1 d2 d3 e, h.sp, h.lo2, h.ro, h.so, h.lo⟩
theorem Rsn.step (h : Rsn n a b Q p c) (hc1 : 1 ≤ c) (hlt : a c < a (up c)) (ac : a' c = a (up c)) (aq : a' (up c) = a c) (ax : ∀ x, x ≠ c → x ≠ up c → a' x = a x) (bc : 2 * c + 1 = n → b' c = a (up c)) (bx : ∀ x, (x ≠ c ∨ 2 * c + 1 < n) → b' x = b x) : Rsn n a' b' Q p (up c) := by
  have hcn : 2 * c < n := by have := h.cp; have := h.hp; omega
  have hq := up_lt hc1
  have hqf := up_full hc1 hcn
  have r1q := h.r1 (up c) (by omega)
  have r1c := h.r1 c hcn
  have bq : b' (up c) = b (up c) := bx _ (.inl (by omega))
  have l2 := h.lo2 hc1
  have R1c : a (up c) ≤ b' c := by
    by_cases e : 2 * c + 1 = n
    · rw [bc e]; omega
    · rw [bx c (.inr (by omega))]; exact l2 (by omega)
  have rq : 1 ≤ up c → a (up (up c)) ≤ a (up c) := fun q1 => h.rs (up c) q1 (by omega) (by omega)
  refine ⟨by have := h.cp; omega, h.hp, fun x hx => ?_, fun x hx => ?_, fun x x1 x2 x3 => ?_, fun q1 x x1 x2 x3 => ?_, fun q1 _ => ?_, fun x q1 x1 x2 => ?_, fun p1 x x1 x2 x3 => ?_, fun p1 p2 => ?_⟩
  · by_cases e : x = c
    · subst e; rw [ac, bc hx]
    · rw [bx x (.inl e), ax x e (by omega)]; exact h.sg x hx
  · by_cases e : x = c
    · subst e; rw [ac]; exact R1c
    · rw [bx x (.inl e)]
      by_cases e2 : x = up c
      · rw [e2, aq]; omega
      · rw [ax x e e2]; exact h.r1 x hx
  · by_cases e : x = c
    · subst e; rw [ac, aq]; omega
    · rw [ax x e x3]
      by_cases e2 : up x = c
      · rw [e2, ac]; exact h.sk hc1 x x1 x2 e2
      · by_cases e3 : up x = up c
        · rw [e3, aq]
          have := h.rs x x1 x2 e
          rw [e3] at this
          omega
        · rw [ax _ e2 e3]; exact h.rs x x1 x2 e
  · have hqq := up_lt q1
    rw [ax (up (up c)) (by omega) (by omega)]
    by_cases e : x = c
    · subst e; rw [ac]; exact rq q1
    · rw [ax x e (by have := up_lt x1; omega)]
      have := h.rs x x1 x2 e
      rw [x3] at this
      have := rq q1
      omega
  · have hqq := up_lt q1
    rw [ax (up (up c)) (by omega) (by omega), bq]
    have := rq q1
    omega
  · have h0 := h.ro x q1 x1 x2
    by_cases e : x = c
    · subst e
      by_cases e2 : 2 * x + 1 = n
      · rw [bc e2, bq]; exact r1q
      · rw [bx x (.inr (by omega)), bq]; exact h0
    · rw [bx x (.inl e)]
      have : up x ≠ c ∨ 2 * c + 1 < n := by
        by_cases e2 : up x = c
        · right; rw [← e2]; exact up_full x1 x2
        · exact .inl e2
      rw [bx _ this]
      exact h0
  · have h0 := h.so p1 x x1 x2 x3
    have hup := up_lt p1
    have hxp := up_lt x1
    have hcp := h.cp
    rw [bx x (.inl (by omega))]
    have : up p ≠ c ∨ 2 * c + 1 < n := by
      by_cases e2 : up p = c
      · right; rw [← e2]; exact up_full p1 h.hp
      · exact .inl e2
    rw [bx _ this]
    exact h0
  · have h0 := h.lo p1 p2
    have hup := up_lt p1
    have hcp := h.cp
    have : up p ≠ c ∨ 2 * c + 1 < n := by
      by_cases e2 : up p = c
      · right; rw [← e2]; exact up_full p1 h.hp
      · exact .inl e2
    rw [bx _ this]
    by_cases e : p = c
    · subst e; rw [ac]; exact r1q
    · rw [ax p e (by omega)]; exact h0
theorem Rsn.done (h : Rsn n a b Q p c) (hq : 1 ≤ c → a (up c) ≤ a c) : Fin' n a b Q p :=
  ⟨h.hp, h.sg, h.r1, fun d d1 d2 => by
    by_cases e : d = c
    · subst e; exact hq d1
    · exact h.rs d d1 d2 e, h.ro, h.so, h.lo⟩
/-- the other side's turn -/
theorem Fin'.turn (h : Fin' n a b (fun d => d ≠ p ∧ up d ≠ p) p) : Snk n (fun d => - b d) (fun d => - a d) (fun _ => True) p p := by
  refine ⟨Nat.le_refl _, h.hp, fun d hd => ?_, fun d hd => ?_, fun d d1 d2 d3 d4 => ?_, fun p1 d d1 d2 d3 => ?_, fun p1 d d1 d2 d3 => ?_, fun q => absurd rfl q, fun d _ d1 d2 => ?_, fun p1 d d1 d2 d3 => ?_, fun p1 p2 => ?_, fun p1 p2 => ?_⟩
  · have := h.sg d hd; omega
  · have := h.r1 d hd; omega
  · have := h.ro d ⟨d3, d4⟩ d1 d2; omega
  · have := h.so p1 d d1 d2 d3; omega
  · have := h.so p1 d d1 d2 d3; omega
  · have := h.rs d d1 d2; omega
  · have h1 := h.rs d d1 d2
    have h2 := h.rs p p1 h.hp
    rw [d3] at h1
    omega
  · have h2 := h.rs p p1 h.hp
    have h1 := h.r1 p h.hp
    omega
  · have := h.lo p1 p2; omega
theorem Fin'.v (h : Fin' n a b (fun _ => True) p) : V n a b := ⟨h.sg, h.r1, h.rs, fun d => h.ro d trivial⟩
theorem V.neg (h : V n a b) : V n (fun d => - b d) (fun d => - a d) := by
  refine ⟨fun d hd => ?_, fun d hd => ?_, fun d d1 d2 => ?_, fun d d1 d2 => ?_⟩
  · have := h.sg d hd; omega
  · have := h.r1 d hd; omega
  · have := h.ro d d1 d2; omega
  · have := h.rs d d1 d2; omega
/-- where one pair's entries may be others, turned the right way round -/
theorem V.start (h : V n a b) (hp : 2 * p < n) (h1 : a' p ≤ b' p) (h2 : 2 * p + 1 = n → a' p = b' p) (h3 : 2 * p + 1 < n → a' p ≤ b p ∧ a p ≤ b' p) (ax : ∀ x, x ≠ p → a' x = a x) (bx : ∀ x, x ≠ p → b' x = b x) : Snk n a' b' (fun d => d ≠ p ∧ up d ≠ p) p p := by
  have sk : 1 ≤ p → ∀ d, 1 ≤ d → 2 * d < n → up d = p → a' (up p) ≤ a' d := fun p1 d d1 d2 d3 => by
    have := up_lt d1
    have := up_lt p1
    rw [ax (up p) (by omega), ax d (by omega)]
    have q1 := h.rs d d1 d2
    have q2 := h.rs p p1 hp
    rw [d3] at q1
    omega
  refine ⟨Nat.le_refl _, hp, fun d hd => ?_, fun d hd => ?_, fun d d1 d2 d3 d4 => ?_, sk, sk, fun q => absurd rfl q, fun d q d1 d2 => ?_, fun p1 d d1 d2 d3 => ?_, fun p1 p2 => ?_, fun p1 p2 => ?_⟩
  · by_cases e : d = p
    · subst e; exact h2 hd
    · rw [ax d e, bx d e]; exact h.sg d hd
  · by_cases e : d = p
    · subst e; exact h1
    · rw [ax d e, bx d e]; exact h.r1 d hd
  · rw [ax d d3, ax _ d4]; exact h.rs d d1 d2
  · rw [bx d q.1, bx _ q.2]; exact h.ro d d1 d2
  · have := up_lt d1
    have := up_lt p1
    rw [bx (up p) (by omega), bx d (by omega)]
    have q1 := h.ro d d1 d2
    have q2 := h.ro p p1 hp
    rw [d3] at q1
    omega
  · have := up_lt p1
    rw [bx (up p) (by omega)]
    have q2 := h.ro p p1 hp
    have := (h3 p2).1
    omega
  · have := up_lt p1
    rw [ax (up p) (by omega)]
    have q2 := h.rs p p1 hp
    have := (h3 p2).2
    omega
/-- the first pair has the least and the greatest -/
theorem V.least (h : V n a b) : ∀ d, 2 * d < n → a 0 ≤ a d ∧ b d ≤ b 0 := by
  intro d
  induction d using Nat.strongRecOn with
  | ind d ih =>
    intro hd
    by_cases e : d = 0
    · subst e; omega
    · have h1 := up_lt (p := d) (by omega)
      have h2 := ih (up d) h1 (by omega)
      have h3 := h.rs d (by omega) hd
      have h4 := h.ro d (by omega) hd
      omega
end
end Go.Proofs.Ythlbeofonbbbdaa
