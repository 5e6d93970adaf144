/-
  Plain mathematics: the order of keys, and of entries.
-/
import Derived.Laws.World
namespace Go.Proofs.YtcgaekaollhmpaaGreat

/-- a key: a ratio's two parts, and a tie -/
structure K where
  n : Nat
  d : Nat
  t : Int
deriving DecidableEq
structure K.ok (k : K) : Prop where
  n : k.n < 18446744073709551616
  d : k.d < 18446744073709551616
  z : k.d ≠ 0
/-- the ratios: less, like -/
def rl (a b : K) : Prop := a.n * b.d < b.n * a.d
def re (a b : K) : Prop := a.n * b.d = b.n * a.d
theorem re.refl (a : K) : re a a := rfl
theorem re.symm {a b : K} (h : re a b) : re b a := Eq.symm h
theorem rl_tri (a b : K) : rl a b ∨ re a b ∨ rl b a := Nat.lt_trichotomy _ _
theorem rl_ne {a b : K} (h : rl a b) : ¬ re a b := fun e => by unfold rl re at *; omega
theorem rl_asymm {a b : K} (h : rl a b) : ¬ rl b a := fun e => by unfold rl at *; omega
theorem re_rl {a b : K} (h : re a b) : ¬ rl a b := fun e => rl_ne e h
theorem mul3 (x y z : Nat) : x * y * z = x * z * y := by rw [Nat.mul_assoc, Nat.mul_comm y z, ← Nat.mul_assoc]
theorem rl.trans {a b c : K} (_hb : b.d ≠ 0) (hc : c.d ≠ 0) (ha : a.d ≠ 0) (h : rl a b) (k : rl b c) : rl a c := by
  unfold rl at *
  have h1 : a.n * b.d * c.d < b.n * a.d * c.d := Nat.mul_lt_mul_of_pos_right h (by omega)
  have h2 : b.n * c.d * a.d < c.n * b.d * a.d := Nat.mul_lt_mul_of_pos_right k (by omega)
  rw [mul3 b.n a.d c.d] at h1
  have h3 : a.n * c.d * b.d < c.n * a.d * b.d := by rw [mul3 a.n c.d, mul3 c.n a.d]; omega
  exact Nat.lt_of_mul_lt_mul_right h3
theorem rl.re {a b c : K} (_hb : b.d ≠ 0) (_ha : a.d ≠ 0) (hc : c.d ≠ 0) (h : rl a b) (k : re b c) : rl a c := by
  unfold rl Go.Proofs.YtcgaekaollhmpaaGreat.re at *
  have h1 : a.n * b.d * c.d < b.n * a.d * c.d := Nat.mul_lt_mul_of_pos_right h (by omega)
  have h2 : b.n * c.d * a.d = c.n * b.d * a.d := by rw [k]
  rw [mul3 b.n a.d c.d] at h1
  have h3 : a.n * c.d * b.d < c.n * a.d * b.d := by rw [mul3 a.n c.d, mul3 c.n a.d]; omega
  exact Nat.lt_of_mul_lt_mul_right h3
theorem re.rl {a b c : K} (_hb : b.d ≠ 0) (ha : a.d ≠ 0) (_hc : c.d ≠ 0) (h : re a b) (k : rl b c) : rl a c := by
  unfold Go.Proofs.YtcgaekaollhmpaaGreat.rl Go.Proofs.YtcgaekaollhmpaaGreat.re at *
  have h1 : a.n * b.d * c.d = b.n * a.d * c.d := by rw [h]
  have h2 : b.n * c.d * a.d < c.n * b.d * a.d := Nat.mul_lt_mul_of_pos_right k (by omega)
  rw [mul3 b.n a.d c.d] at h1
  have h3 : a.n * c.d * b.d < c.n * a.d * b.d := by rw [mul3 a.n c.d, mul3 c.n a.d]; omega
  exact Nat.lt_of_mul_lt_mul_right h3
theorem re.trans {a b c : K} (hb : b.d ≠ 0) (h : re a b) (k : re b c) : re a c := by
  unfold re at *
  have h1 : a.n * b.d * c.d = b.n * a.d * c.d := by rw [h]
  have h2 : b.n * c.d * a.d = c.n * b.d * a.d := by rw [k]
  rw [mul3 b.n a.d c.d] at h1
  have h3 : a.n * c.d * b.d = c.n * a.d * b.d := by rw [mul3 a.n c.d, mul3 c.n a.d]; omega
  exact Nat.eq_of_mul_eq_mul_right (by omega) h3

/-- the keys: less, like -/
def kl (a b : K) : Prop := rl a b ∨ (re a b ∧ a.t < b.t)
def ke (a b : K) : Prop := re a b ∧ a.t = b.t
theorem kl_tri (a b : K) : kl a b ∨ ke a b ∨ kl b a := by
  unfold kl ke
  rcases rl_tri a b with h | h | h
  · exact .inl (.inl h)
  · rcases (by omega : a.t < b.t ∨ a.t = b.t ∨ b.t < a.t) with k | k | k
    · exact .inl (.inr ⟨h, k⟩)
    · exact .inr (.inl ⟨h, k⟩)
    · exact .inr (.inr (.inr ⟨h.symm, k⟩))
  · exact .inr (.inr (.inl h))
theorem ke.symm {a b : K} (h : ke a b) : ke b a := ⟨h.1.symm, h.2.symm⟩
theorem ke.refl (a : K) : ke a a := ⟨rfl, rfl⟩
theorem kl_asymm {a b : K} (h : kl a b) : ¬ kl b a := by
  rintro (k | ⟨k, k2⟩) <;> rcases h with h | ⟨h, h2⟩
  · exact rl_asymm h k
  · exact rl_ne k h.symm
  · exact rl_ne h k.symm
  · omega
theorem kl_ne {a b : K} (h : kl a b) : ¬ ke a b := by
  rintro ⟨k, k2⟩
  rcases h with h | ⟨h, h2⟩
  · exact rl_ne h k
  · omega
theorem kl.trans {a b c : K} (ha : a.d ≠ 0) (hb : b.d ≠ 0) (hc : c.d ≠ 0) (h : kl a b) (k : kl b c) : kl a c := by
  rcases h with h | ⟨h, h2⟩ <;> rcases k with k | ⟨k, k2⟩
  · exact .inl (h.trans hb hc ha k)
  · exact .inl (h.re hb ha hc k)
  · exact .inl (h.rl hb ha hc k)
  · exact .inr ⟨h.trans hb k, by omega⟩
theorem kl.ke {a b c : K} (ha : a.d ≠ 0) (hb : b.d ≠ 0) (hc : c.d ≠ 0) (h : kl a b) (k : ke b c) : kl a c := by
  rcases h with h | ⟨h, h2⟩
  · exact .inl (h.re hb ha hc k.1)
  · exact .inr ⟨h.trans hb k.1, by have := k.2; omega⟩
theorem ke.kl {a b c : K} (ha : a.d ≠ 0) (hb : b.d ≠ 0) (hc : c.d ≠ 0) (h : ke a b) (k : kl b c) : kl a c := by
  rcases k with k | ⟨k, k2⟩
  · exact .inl (h.1.rl hb ha hc k)
  · exact .inr ⟨h.1.trans hb k, by have := h.2; omega⟩
theorem ke.trans {a b c : K} (hb : b.d ≠ 0) (h : ke a b) (k : ke b c) : ke a c := ⟨h.1.trans hb k.1, h.2.trans k.2⟩

/-- entries, by key and handle: less -/
def el (a : K) (x : Nat) (b : K) (y : Nat) : Prop := kl a b ∨ (ke a b ∧ x < y)
theorem el_tri (a : K) (x : Nat) (b : K) (y : Nat) (h : x ≠ y) : el a x b y ∨ el b y a x := by
  unfold el
  rcases kl_tri a b with k | k | k
  · exact .inl (.inl k)
  · rcases Nat.lt_or_gt_of_ne h with q | q
    · exact .inl (.inr ⟨k, q⟩)
    · exact .inr (.inr ⟨k.symm, q⟩)
  · exact .inr (.inl k)
theorem el_asymm {a b : K} {x y : Nat} (h : el a x b y) : ¬ el b y a x := by
  rintro (k | ⟨k, k2⟩) <;> rcases h with h | ⟨h, h2⟩
  · exact kl_asymm h k
  · exact kl_ne k h.symm
  · exact kl_ne h k.symm
  · omega
theorem el_irr (a : K) (x : Nat) : ¬ el a x a x := fun h => el_asymm h h
theorem el.trans {a b c : K} {x y z : Nat} (ha : a.d ≠ 0) (hb : b.d ≠ 0) (hc : c.d ≠ 0) (h : el a x b y) (k : el b y c z) : el a x c z := by
  rcases h with h | ⟨h, h2⟩ <;> rcases k with k | ⟨k, k2⟩
  · exact .inl (h.trans ha hb hc k)
  · exact .inl (h.ke ha hb hc k)
  · exact .inl (h.kl ha hb hc k)
  · exact .inr ⟨h.trans hb k, by omega⟩
end Go.Proofs.YtcgaekaollhmpaaGreat
