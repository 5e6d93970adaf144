/-
  Plain mathematics: fractions of natural numbers in their lowest form; what the program reckons on the way is that form.
-/
import Derived.Laws.World
namespace Go.Proofs.YtcgaekaollhmpaaGreat.Vs.Q

/-- n / d, lowest (third part 0), or that a part of it passes 64 bits (7). -/
def low (n d : Nat) : Nat × Nat × Nat :=
  if n / n.gcd d < 18446744073709551616 ∧ d / n.gcd d < 18446744073709551616 then (n / n.gcd d, d / n.gcd d, 0) else (0, 0, 7)

theorem low_mul {k : Nat} (hk : 0 < k) (n d : Nat) : low (k * n) (k * d) = low n d := by
  unfold low
  rw [Nat.gcd_mul_left, Nat.mul_div_mul_left _ _ hk, Nat.mul_div_mul_left _ _ hk]

theorem low_congr {n d n' d' : Nat} (h1 : 0 < d) (h2 : 0 < d') (h : n * d' = n' * d) : low n d = low n' d' := by
  rw [← low_mul h2 n d, ← low_mul h1 n' d', Nat.mul_comm d' n, h, Nat.mul_comm n' d, Nat.mul_comm d' d]

theorem low_out {n d x y : Nat} (hd : 0 < d) (h : low n d = (x, y, 0)) : n * y = x * d ∧ 0 < y ∧ x.Coprime y ∧ x < 18446744073709551616 ∧ y < 18446744073709551616 := by
  unfold low at h
  split at h
  case isFalse => simp at h
  case isTrue hlt =>
    simp only [Prod.mk.injEq, and_true] at h
    obtain ⟨rfl, rfl⟩ := h
    have hg : 0 < n.gcd d := Nat.gcd_pos_of_pos_right _ hd
    have e1 := Nat.div_mul_cancel (Nat.gcd_dvd_left n d)
    have e2 := Nat.div_mul_cancel (Nat.gcd_dvd_right n d)
    refine ⟨?_, Nat.div_pos (Nat.le_of_dvd hd (Nat.gcd_dvd_right n d)) hg, Nat.coprime_div_gcd_div_gcd hg, hlt.1, hlt.2⟩
    generalize n.gcd d = g at *
    generalize n / g = a at *
    generalize d / g = b at *
    rw [← e1, ← e2, Nat.mul_assoc, Nat.mul_comm g b]

theorem low_prime {x y : Nat} (h : x.Coprime y) (hx : x < 18446744073709551616) (hy : y < 18446744073709551616) : low x y = (x, y, 0) := by
  unfold low
  rw [show x.gcd y = 1 from h, Nat.div_one, Nat.div_one, if_pos ⟨hx, hy⟩]

theorem low_cases (n d : Nat) : (∃ x y, low n d = (x, y, 0)) ∨ low n d = (0, 0, 7) := by
  unfold low
  split
  · exact Or.inl ⟨_, _, rfl⟩
  · exact Or.inr rfl

theorem low_lt (n d : Nat) : (low n d).1 < 18446744073709551616 ∧ (low n d).2.1 < 18446744073709551616 := by
  unfold low
  split
  case isTrue h => exact h
  case isFalse => simp

/-! ### What the calls answer -/
def newR (n d : Nat) : Nat × Nat × Nat := if d = 0 then (0, 0, 2) else (n / n.gcd d, d / n.gcd d, 0)
def ord (x y : Nat) : Int := if x < y then -1 else if y < x then 1 else 0
def cmpR (a b c d : Nat) : Int × Nat := if b = 0 ∨ d = 0 then (0, 4) else (ord (a * d) (c * b), 0)
def addR (a b c d : Nat) : Nat × Nat × Nat := if b = 0 ∨ d = 0 then (0, 0, 4) else low (a * d + c * b) (b * d)
def subR (a b c d : Nat) : Nat × Nat × Nat := if b = 0 ∨ d = 0 then (0, 0, 4) else if a * d < c * b then (0, 0, 2) else low (a * d - c * b) (b * d)
def mulR (a b c d : Nat) : Nat × Nat × Nat := if b = 0 ∨ d = 0 then (0, 0, 4) else low (a * c) (b * d)

/-! ### What the program does on the way -/

theorem own_low {a b : Nat} (hb : 0 < b) : (a / a.gcd b).Coprime (b / a.gcd b) ∧ 0 < b / a.gcd b ∧ a * (b / a.gcd b) = a / a.gcd b * b := by
  have hg : 0 < a.gcd b := Nat.gcd_pos_of_pos_right _ hb
  have e1 := Nat.div_mul_cancel (Nat.gcd_dvd_left a b)
  have e2 := Nat.div_mul_cancel (Nat.gcd_dvd_right a b)
  refine ⟨Nat.coprime_div_gcd_div_gcd hg, Nat.div_pos (Nat.le_of_dvd hb (Nat.gcd_dvd_right a b)) hg, ?_⟩
  generalize a.gcd b = g at *
  generalize a / g = p at *
  generalize b / g = q at *
  rw [← e1, ← e2, Nat.mul_assoc, Nat.mul_comm g q]

/-- the greatest common divisor of what is over the common denominator -/
theorem meet_gcd {n1 d1 n2 d2 x : Nat} (h1 : n1.Coprime d1) (h2 : n2.Coprime d2) (hd1 : 0 < d1)
    (hx : x = n1 * (d2 / d1.gcd d2) + n2 * (d1 / d1.gcd d2) ∨ (x + n2 * (d1 / d1.gcd d2) = n1 * (d2 / d1.gcd d2))) :
    x.gcd (d1 / d1.gcd d2 * d2) = x.gcd (d1.gcd d2) := by
  have hg : 0 < d1.gcd d2 := Nat.gcd_pos_of_pos_left _ hd1
  have e1 := Nat.div_mul_cancel (Nat.gcd_dvd_left d1 d2)
  have e2 := Nat.div_mul_cancel (Nat.gcd_dvd_right d1 d2)
  have hfe := Nat.coprime_div_gcd_div_gcd hg
  generalize d1.gcd d2 = g at *
  generalize d1 / g = f at *
  generalize d2 / g = e at *
  have hf : n1.Coprime f := Nat.Coprime.coprime_dvd_right ⟨g, e1.symm⟩ h1
  have he : n2.Coprime e := Nat.Coprime.coprime_dvd_right ⟨g, e2.symm⟩ h2
  have hxf : x.gcd f = 1 := by
    rcases hx with hx | hx
    · rw [hx, Nat.gcd_add_mul_right_left]
      exact Nat.Coprime.mul_left hf hfe.symm
    · have : (x + n2 * f).gcd f = x.gcd f := Nat.gcd_add_mul_right_left _ _ _
      rw [← this, hx]
      exact Nat.Coprime.mul_left hf hfe.symm
  have hxe : x.gcd e = 1 := by
    have hn : (n2 * f).gcd e = 1 := Nat.Coprime.mul_left he hfe
    rcases hx with hx | hx
    · rw [hx, Nat.add_comm, Nat.gcd_add_mul_right_left]
      exact hn
    · have hdv : x.gcd e ∣ n2 * f := by
        have a1 : x.gcd e ∣ x + n2 * f := by rw [hx]; exact Nat.dvd_trans (Nat.gcd_dvd_right x e) (Nat.dvd_mul_left e n1)
        exact (Nat.dvd_add_right (Nat.gcd_dvd_left x e)).1 a1
      have : x.gcd e ∣ (n2 * f).gcd e := Nat.dvd_gcd hdv (Nat.gcd_dvd_right x e)
      rw [hn] at this
      exact Nat.dvd_one.1 this
  rw [← e2, Nat.Coprime.gcd_mul_left_cancel_right (k := f) (m := x) (e * g) (by rw [Nat.coprime_comm]; exact hxf)]
  exact Nat.Coprime.gcd_mul_left_cancel_right (k := e) (m := x) g (by rw [Nat.coprime_comm]; exact hxe)

/-- what 'over' answers -/
def overR (x f r g : Nat) : Nat × Nat × Nat :=
  if (x % g).gcd g ≤ x / 18446744073709551616 then (0, 0, 7)
  else if f * (r / (x % g).gcd g) / 18446744073709551616 ≠ 0 then (0, 0, 7)
  else (x / (x % g).gcd g, f * (r / (x % g).gcd g), 0)

theorem over_low {x f r g : Nat} (hg : 0 < g) (hgr : g ∣ r) (h : x.gcd (f * r) = x.gcd g) : overR x f r g = low x (f * r) := by
  have e : (x % g).gcd g = x.gcd g := by rw [← Nat.gcd_rec, Nat.gcd_comm]
  unfold overR low
  rw [e, h]
  have hgg : 0 < x.gcd g := Nat.gcd_pos_of_pos_right _ hg
  have hdv : x.gcd g ∣ r := Nat.dvd_trans (Nat.gcd_dvd_right x g) hgr
  have ed : f * (r / x.gcd g) = f * r / x.gcd g := (Nat.mul_div_assoc f hdv).symm
  rw [ed]
  generalize x.gcd g = k at *
  have e1 : (k ≤ x / 18446744073709551616) ↔ ¬ (x / k < 18446744073709551616) := by
    rw [Nat.le_div_iff_mul_le (by decide), Nat.div_lt_iff_lt_mul hgg, Nat.mul_comm k]
    omega
  have e2 : (f * r / k / 18446744073709551616 ≠ 0) ↔ ¬ (f * r / k < 18446744073709551616) := by omega
  by_cases c1 : x / k < 18446744073709551616 <;> by_cases c2 : f * r / k < 18446744073709551616 <;> simp [e1, e2, c1, c2]

/-- a sum past 128 bits is past the limit in its lowest form -/
theorem over_carry {x f r g : Nat} (hg : 0 < g) (hg2 : g < 18446744073709551616) (h : x.gcd (f * r) = x.gcd g) (hx : 340282366920938463463374607431768211456 ≤ x) : low x (f * r) = (0, 0, 7) := by
  have hgg : 0 < x.gcd g := Nat.gcd_pos_of_pos_right _ hg
  have hle : x.gcd g ≤ g := Nat.le_of_dvd hg (Nat.gcd_dvd_right x g)
  unfold low
  rw [h, if_neg]
  rintro ⟨h1, _⟩
  rw [Nat.div_lt_iff_lt_mul hgg] at h1
  have : 18446744073709551616 * x.gcd g ≤ 18446744073709551616 * 18446744073709551615 := Nat.mul_le_mul_left _ (by omega)
  omega

theorem add_meet {a b c d n1 d1 n2 d2 : Nat} (hb : 0 < b) (hd : 0 < d) (p1 : 0 < d1) (p2 : 0 < d2) (q1 : a * d1 = n1 * b) (q2 : c * d2 = n2 * d) :
    low (n1 * (d2 / d1.gcd d2) + n2 * (d1 / d1.gcd d2)) (d1 / d1.gcd d2 * d2) = low (a * d + c * b) (b * d) := by
  have hg : 0 < d1.gcd d2 := Nat.gcd_pos_of_pos_left _ p1
  have e1 := Nat.div_mul_cancel (Nat.gcd_dvd_left d1 d2)
  have e2 := Nat.div_mul_cancel (Nat.gcd_dvd_right d1 d2)
  rw [← low_mul hg]
  have x1 : d1.gcd d2 * (n1 * (d2 / d1.gcd d2) + n2 * (d1 / d1.gcd d2)) = n1 * d2 + n2 * d1 := by
    generalize d1.gcd d2 = g at *
    generalize d1 / g = f at *
    generalize d2 / g = e at *
    subst e1 e2
    rw [Nat.mul_add]
    ac_rfl
  have x2 : d1.gcd d2 * (d1 / d1.gcd d2 * d2) = d1 * d2 := by
    rw [← Nat.mul_assoc, Nat.mul_comm (d1.gcd d2), e1]
  rw [x1, x2]
  refine low_congr (Nat.mul_pos p1 p2) (Nat.mul_pos hb hd) ?_
  rw [Nat.add_mul, Nat.add_mul]
  have y1 : n1 * d2 * (b * d) = a * d * (d1 * d2) := by
    calc n1 * d2 * (b * d) = (n1 * b) * (d2 * d) := by ac_rfl
      _ = (a * d1) * (d2 * d) := by rw [q1]
      _ = _ := by ac_rfl
  have y2 : n2 * d1 * (b * d) = c * b * (d1 * d2) := by
    calc n2 * d1 * (b * d) = (n2 * d) * (d1 * b) := by ac_rfl
      _ = (c * d2) * (d1 * b) := by rw [q2]
      _ = _ := by ac_rfl
  rw [y1, y2]

theorem sub_meet {a b c d n1 d1 n2 d2 : Nat} (hb : 0 < b) (hd : 0 < d) (p1 : 0 < d1) (p2 : 0 < d2) (q1 : a * d1 = n1 * b) (q2 : c * d2 = n2 * d) :
    low (n1 * (d2 / d1.gcd d2) - n2 * (d1 / d1.gcd d2)) (d1 / d1.gcd d2 * d2) = low (a * d - c * b) (b * d) := by
  have hg : 0 < d1.gcd d2 := Nat.gcd_pos_of_pos_left _ p1
  have e1 := Nat.div_mul_cancel (Nat.gcd_dvd_left d1 d2)
  have e2 := Nat.div_mul_cancel (Nat.gcd_dvd_right d1 d2)
  rw [← low_mul hg]
  have x1 : d1.gcd d2 * (n1 * (d2 / d1.gcd d2) - n2 * (d1 / d1.gcd d2)) = n1 * d2 - n2 * d1 := by
    generalize d1.gcd d2 = g at *
    generalize d1 / g = f at *
    generalize d2 / g = e at *
    subst e1 e2
    rw [Nat.mul_sub]
    congr 1 <;> ac_rfl
  have x2 : d1.gcd d2 * (d1 / d1.gcd d2 * d2) = d1 * d2 := by
    rw [← Nat.mul_assoc, Nat.mul_comm (d1.gcd d2), e1]
  rw [x1, x2]
  refine low_congr (Nat.mul_pos p1 p2) (Nat.mul_pos hb hd) ?_
  rw [Nat.sub_mul, Nat.sub_mul]
  have y1 : n1 * d2 * (b * d) = a * d * (d1 * d2) := by
    calc n1 * d2 * (b * d) = (n1 * b) * (d2 * d) := by ac_rfl
      _ = (a * d1) * (d2 * d) := by rw [q1]
      _ = _ := by ac_rfl
  have y2 : n2 * d1 * (b * d) = c * b * (d1 * d2) := by
    calc n2 * d1 * (b * d) = (n2 * d) * (d1 * b) := by ac_rfl
      _ = (c * d2) * (d1 * b) := by rw [q2]
      _ = _ := by ac_rfl
  rw [y1, y2]

/-- the difference over the common denominator is none below 0 -/
theorem sub_le {a b c d n1 d1 n2 d2 : Nat} (hb : 0 < b) (hd : 0 < d) (p1 : 0 < d1) (q1 : a * d1 = n1 * b) (q2 : c * d2 = n2 * d) (h : c * b ≤ a * d) :
    n2 * (d1 / d1.gcd d2) ≤ n1 * (d2 / d1.gcd d2) := by
  have hg : 0 < d1.gcd d2 := Nat.gcd_pos_of_pos_left _ p1
  have e1 := Nat.div_mul_cancel (Nat.gcd_dvd_left d1 d2)
  have e2 := Nat.div_mul_cancel (Nat.gcd_dvd_right d1 d2)
  refine Nat.le_of_mul_le_mul_left ?_ (Nat.mul_pos (Nat.mul_pos hg hb) hd)
  generalize d1.gcd d2 = g at *
  generalize d1 / g = f at *
  generalize d2 / g = e at *
  have z1 : g * b * d * (n2 * f) = c * b * ((e * g) * (f * g)) := by
    calc g * b * d * (n2 * f) = (n2 * d) * (b * (f * g)) := by ac_rfl
      _ = (c * d2) * (b * (f * g)) := by rw [q2]
      _ = _ := by rw [← e2]; ac_rfl
  have z2 : g * b * d * (n1 * e) = a * d * ((e * g) * (f * g)) := by
    calc g * b * d * (n1 * e) = (n1 * b) * (d * (e * g)) := by ac_rfl
      _ = (a * d1) * (d * (e * g)) := by rw [q1]
      _ = _ := by rw [← e1]; ac_rfl
  rw [z1, z2]
  exact Nat.mul_le_mul_right _ h

/-! ### The product -/
def narrowR (n d : Nat) : Nat × Nat × Nat := if n / 18446744073709551616 ≠ 0 ∨ d / 18446744073709551616 ≠ 0 then (0, 0, 7) else (n, d, 0)

theorem narrow_low {n d : Nat} (h : n.Coprime d) : narrowR n d = low n d := by
  unfold narrowR low
  rw [show n.gcd d = 1 from h, Nat.div_one, Nat.div_one]
  by_cases c1 : n < 18446744073709551616 <;> by_cases c2 : d < 18446744073709551616
  · rw [if_neg (by omega), if_pos ⟨c1, c2⟩]
  · rw [if_pos (by omega), if_neg (by omega)]
  · rw [if_pos (by omega), if_neg (by omega)]
  · rw [if_pos (by omega), if_neg (by omega)]

theorem mul_meet {a b c d n1 d1 n2 d2 : Nat} (hb : 0 < b) (hd : 0 < d) (p1 : 0 < d1) (p2 : 0 < d2) (h1 : n1.Coprime d1) (h2 : n2.Coprime d2) (q1 : a * d1 = n1 * b) (q2 : c * d2 = n2 * d) :
    narrowR (n1 / n1.gcd d2 * (n2 / n2.gcd d1)) (d1 / n2.gcd d1 * (d2 / n1.gcd d2)) = low (a * c) (b * d) := by
  have g1 : 0 < n1.gcd d2 := Nat.gcd_pos_of_pos_right _ p2
  have g2 : 0 < n2.gcd d1 := Nat.gcd_pos_of_pos_right _ p1
  have k1 := Nat.coprime_div_gcd_div_gcd g1
  have k2 := Nat.coprime_div_gcd_div_gcd g2
  have s1 := Nat.div_mul_cancel (Nat.gcd_dvd_left n1 d2)
  have s2 := Nat.div_mul_cancel (Nat.gcd_dvd_right n1 d2)
  have s3 := Nat.div_mul_cancel (Nat.gcd_dvd_left n2 d1)
  have s4 := Nat.div_mul_cancel (Nat.gcd_dvd_right n2 d1)
  have t1 : (n1 / n1.gcd d2).Coprime (d1 / n2.gcd d1) :=
    Nat.Coprime.coprime_dvd_left ⟨_, s1.symm⟩ (Nat.Coprime.coprime_dvd_right ⟨_, s4.symm⟩ h1)
  have t2 : (n2 / n2.gcd d1).Coprime (d2 / n1.gcd d2) :=
    Nat.Coprime.coprime_dvd_left ⟨_, s3.symm⟩ (Nat.Coprime.coprime_dvd_right ⟨_, s2.symm⟩ h2)
  rw [narrow_low (Nat.Coprime.mul_left (Nat.Coprime.mul_right t1 k1) (Nat.Coprime.mul_right k2 t2))]
  rw [← low_mul (Nat.mul_pos g1 g2)]
  have x1 : n1.gcd d2 * n2.gcd d1 * (n1 / n1.gcd d2 * (n2 / n2.gcd d1)) = n1 * n2 := by
    calc _ = (n1 / n1.gcd d2 * n1.gcd d2) * (n2 / n2.gcd d1 * n2.gcd d1) := by ac_rfl
      _ = _ := by rw [s1, s3]
  have x2 : n1.gcd d2 * n2.gcd d1 * (d1 / n2.gcd d1 * (d2 / n1.gcd d2)) = d1 * d2 := by
    calc _ = (d1 / n2.gcd d1 * n2.gcd d1) * (d2 / n1.gcd d2 * n1.gcd d2) := by ac_rfl
      _ = _ := by rw [s2, s4]
  rw [x1, x2]
  refine low_congr (Nat.mul_pos p1 p2) (Nat.mul_pos hb hd) ?_
  calc n1 * n2 * (b * d) = (n1 * b) * (n2 * d) := by ac_rfl
    _ = (a * d1) * (c * d2) := by rw [q1, q2]
    _ = _ := by ac_rfl

/-! ### The order -/
theorem ord_swap (x y : Nat) : ord y x = - ord x y := by
  unfold ord
  by_cases h : x < y
  · rw [if_neg (by omega), if_pos h, if_pos h]; rfl
  · by_cases h' : y < x
    · rw [if_pos h', if_neg h, if_pos h']
    · rw [if_neg h', if_neg h, if_neg h, if_neg h']; rfl
theorem ord_cases (x y : Nat) : (ord x y = -1 ∧ x < y) ∨ (ord x y = 0 ∧ x = y) ∨ (ord x y = 1 ∧ y < x) := by
  unfold ord
  by_cases h : x < y
  · rw [if_pos h]; exact Or.inl ⟨rfl, h⟩
  · by_cases h' : y < x
    · rw [if_neg h, if_pos h']; exact Or.inr (Or.inr ⟨rfl, h'⟩)
    · rw [if_neg h, if_neg h']; exact Or.inr (Or.inl ⟨rfl, by omega⟩)
theorem ord_self (x : Nat) : ord x x = 0 := by unfold ord; simp
theorem ord_le {x y : Nat} : ord x y ≤ 0 ↔ x ≤ y := by
  rcases ord_cases x y with ⟨h, h'⟩ | ⟨h, h'⟩ | ⟨h, h'⟩ <;> rw [h] <;> omega
theorem ord_ge {x y : Nat} : 0 ≤ ord x y ↔ y ≤ x := by
  rcases ord_cases x y with ⟨h, h'⟩ | ⟨h, h'⟩ | ⟨h, h'⟩ <;> rw [h] <;> omega

theorem le_trans' {a b c d e f : Nat} (hd : 0 < d) (h1 : a * d ≤ c * b) (h2 : c * f ≤ e * d) : a * f ≤ e * b := by
  refine Nat.le_of_mul_le_mul_left ?_ hd
  calc d * (a * f) = (a * d) * f := by ac_rfl
    _ ≤ (c * b) * f := Nat.mul_le_mul_right _ h1
    _ = (c * f) * b := by ac_rfl
    _ ≤ (e * d) * b := Nat.mul_le_mul_right _ h2
    _ = _ := by ac_rfl

end Go.Proofs.YtcgaekaollhmpaaGreat.Vs.Q
