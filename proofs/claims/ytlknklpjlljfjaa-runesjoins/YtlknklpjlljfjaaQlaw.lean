/-
  Plain mathematics: a text that is quoted is a text, and is cut to itself alone; what is no text isn't one when it is quoted.
-/
import Derived.Test.YtlknklpjlljfjaaQuo
namespace Go.Proofs.Ytlknklpjlljfjaa.Txt

theorem mach_bare_run (l : List UInt8) (hl : hasB l = false) : ∀ (m acc : List UInt8) (done : List (List UInt8)) (p : Nat), mach (l ++ m) 1 acc done p = mach m 1 (acc ++ l) done (p + l.length) := by
  induction l with
  | nil => intro m acc done p; simp
  | cons b l ih =>
    intro m acc done p
    simp only [hasB, List.any_cons, Bool.or_eq_false_iff, decide_eq_false_iff_not] at hl
    rw [List.cons_append, mach_bare b _ _ _ _ (by omega) (by omega), ih hl.2]
    simp
    congr 1
    omega

theorem mach_esc (l : List UInt8) : ∀ (m acc : List UInt8) (done : List (List UInt8)) (p : Nat), mach (esc l ++ m) 2 acc done p = mach m 2 (acc ++ l) done (p + (esc l).length) := by
  induction l with
  | nil => intro m acc done p; simp [esc]
  | cons b l ih =>
    intro m acc done p
    by_cases hb : b.toNat = 34 ∨ b.toNat = 92
    · have e : esc (b :: l) = 92 :: b :: esc l := by simp [esc, hb]
      have s1 : stepN 2 (92 : UInt8).toNat = 3 := by decide
      have s2 : stepN 3 b.toNat = 2 := by simp [stepN, hb]
      rw [e, List.cons_append, List.cons_append, mach, s1, if_neg (by omega), if_neg (by omega), if_neg (by simp [saidB]), mach, s2, if_neg (by omega), if_neg (by omega), if_pos (by simp [saidB]), ih]
      simp
      congr 1
      omega
    · have e : esc (b :: l) = b :: esc l := by simp [esc, hb]
      have s1 : stepN 2 b.toNat = 2 := by simp only [stepN]; rw [if_neg (by omega), if_neg (by omega), if_pos trivial, if_neg (by omega), if_neg (by omega)]
      rw [e, List.cons_append, mach, s1, if_neg (by omega), if_neg (by omega), if_pos (by simp [saidB]), ih]
      simp
      congr 1
      omega

/-- a quoted word, with what stands behind it -/
theorem mach_quo (l m : List UInt8) (done : List (List UInt8)) (p : Nat) (hm : m = [] ∨ ∃ b m', m = b :: m' ∧ b.toNat = 32) :
    mach (quo l ++ m) 0 [] done p = mach m 0 [] (done ++ [l]) (p + (quo l).length) := by
  unfold quo
  by_cases h : l ≠ [] ∧ hasB l = false
  · rw [if_pos h]
    obtain ⟨b, l', rfl⟩ := List.exists_cons_of_ne_nil h.1
    have hb := h.2
    simp only [hasB, List.any_cons, Bool.or_eq_false_iff, decide_eq_false_iff_not] at hb
    rw [List.cons_append, mach_begin b _ _ _ (by omega) (by omega), ← List.cons_append, mach_bare_run _ h.2, List.nil_append, mach_ended _ 1 (.inl rfl) _ _ _ hm]
  · rw [if_neg h, List.cons_append, mach_open _ _ _ _ _ (by decide), List.append_assoc, mach_esc, List.nil_append]
    have s1 : stepN 2 (34 : UInt8).toNat = 4 := by decide
    rw [List.singleton_append, mach, s1, if_neg (by omega), if_neg (by omega), if_neg (by simp [saidB]), mach_ended _ 4 (.inr rfl) _ _ _ hm]
    simp
    congr 1
    omega

/-- high bytes are not marked -/
theorem esc_high (l : List UInt8) (h : ∀ b ∈ l, 128 ≤ b.toNat) : esc l = l := by
  induction l with
  | nil => rfl
  | cons b l ih =>
    have hb := h b (by simp)
    simp only [esc]
    rw [if_neg (by omega), ih (fun x hx => h x (by simp [hx]))]

theorem take_esc (n : Nat) : ∀ (l m : List UInt8), (∀ b ∈ (esc l ++ 34 :: m).take n, 128 ≤ b.toNat) → (esc l ++ 34 :: m).take n = l.take n := by
  induction n with
  | zero => intro l m _; simp
  | succ n ih =>
    intro l m h
    match l with
    | [] =>
      have := h 34 (by simp [esc])
      simp at this
    | b :: l =>
      by_cases hb : b.toNat = 34 ∨ b.toNat = 92
      · have e : esc (b :: l) = 92 :: b :: esc l := by simp [esc, hb]
        rw [e] at h
        have := h 92 (by simp)
        simp at this
      · have e : esc (b :: l) = b :: esc l := by simp [esc, hb]
        rw [e] at h ⊢
        simp only [List.cons_append, List.take_succ_cons] at h ⊢
        rw [ih l m (fun x hx => h x (by simp [hx]))]

theorem seq_esc_none {l m : List UInt8} (hl : l ≠ []) (h : seq l = none) : seq (esc l ++ 34 :: m) = none := by
  cases hs : seq (esc l ++ 34 :: m) with
  | none => rfl
  | some x =>
    exfalso
    obtain ⟨r, n⟩ := x
    have hne : esc l ++ 34 :: m ≠ [] := by simp
    have hw := seq_width hne hs
    obtain ⟨b, l', rfl⟩ := List.exists_cons_of_ne_nil hl
    have hb : 128 ≤ b.toNat := by
      rcases Nat.lt_or_ge b.toNat 128 with h' | h'
      · rw [seq_ascii (by simpa [at'] using h')] at h; cases h
      · exact h'
    have hn : 2 ≤ n := by
      rcases Nat.lt_or_ge n 2 with h' | h'
      · have : n = 1 := by omega
        subst this
        obtain ⟨b', m', e, e2, h3⟩ := take_one hne hs
        simp only [esc] at e
        rw [if_neg (by omega)] at e
        simp at e
        rw [← e.1] at e2
        omega
      · exact h'
    have ht := take_esc n (b :: l') m (take_high hne hs hn).1
    have hs2 := seq_take hne hs
    rw [ht] at hs2
    have := seq_append ((b :: l').drop n) (by
      intro e
      have := congrArg List.length e
      rw [List.length_take] at this
      simp at this
      omega) hs2
    rw [List.take_append_drop, h] at this
    cases this

/-- marks leave a text a text, and what is none, none -/
theorem chk_esc (f : Nat) : ∀ (l m : List UInt8) (p c p' c' g : Nat), l.length ≤ f → (esc l ++ 34 :: m).length ≤ g → (chk g m 0 0).2.2 = 0 →
    ((chk f l p c).2.2 = 0 ↔ (chk g (esc l ++ 34 :: m) p' c').2.2 = 0) := by
  induction f with
  | zero =>
    intro l m p c p' c' g hf hg hm
    have : l = [] := List.length_eq_zero_iff.1 (by omega)
    subst this
    obtain ⟨g, rfl⟩ : ∃ g', g = g' + 1 := ⟨g - 1, by simp [esc] at hg; omega⟩
    have hs : seq (34 :: m) = some (34, 1) := seq_ascii (by simp [at'])
    simp only [esc, List.nil_append, chk_end 0 [] p c rfl]
    rw [chk_on g (34 :: m) p' c' 34 1 (by simp) hs (by omega)]
    simp only [List.drop_succ_cons, List.drop_zero, true_iff]
    simp [esc] at hg
    rw [(chk_shift g m (p' + 1) (c' + 1) 0 0).1, chk_fuel g (g + 1) m 0 0 (by omega) (by omega)]
    exact hm
  | succ f ih =>
    intro l m p c p' c' g hf hg hm
    by_cases hl0 : l = []
    · subst hl0
      obtain ⟨g, rfl⟩ : ∃ g', g = g' + 1 := ⟨g - 1, by simp [esc] at hg; omega⟩
      have hs : seq (34 :: m) = some (34, 1) := seq_ascii (by simp [at'])
      simp only [esc, List.nil_append, chk_end (f + 1) [] p c rfl]
      rw [chk_on g (34 :: m) p' c' 34 1 (by simp) hs (by omega)]
      simp only [List.drop_succ_cons, List.drop_zero, true_iff]
      simp [esc] at hg
      rw [(chk_shift g m (p' + 1) (c' + 1) 0 0).1, chk_fuel g (g + 1) m 0 0 (by omega) (by omega)]
      exact hm
    have hl : l.length ≠ 0 := fun e => hl0 (List.length_eq_zero_iff.1 e)
    have hel : (esc l ++ 34 :: m).length ≠ 0 := by rw [List.length_append]; simp
    obtain ⟨g, rfl⟩ : ∃ g', g = g' + 1 := ⟨g - 1, by omega⟩
    have hml : m.length ≤ g := by rw [List.length_append] at hg; simp at hg; omega
    have hm' : (chk g m 0 0).2.2 = 0 := by rw [chk_fuel g (g + 1) m 0 0 (by omega) (by omega)]; exact hm
    cases hs : seq l with
    | none =>
      rw [chk_bad f l p c hl hs, chk_bad g _ p' c' hel (seq_esc_none hl0 hs)]
    | some x =>
      obtain ⟨r, n⟩ := x
      have hw := seq_width hl0 hs
      by_cases hn1 : n = 1
      · subst hn1
        obtain ⟨b, l', rfl, rfl, hr⟩ := take_one hl0 hs
        by_cases hb : b.toNat = 34 ∨ b.toNat = 92
        · have e : esc (b :: l') = 92 :: b :: esc l' := by simp [esc, hb]
          rw [chk_on f (b :: l') p c b.toNat 1 hl hs (by omega)]
          have hs1 : seq (esc (b :: l') ++ 34 :: m) = some (92, 1) := by rw [e]; exact seq_ascii (by simp [at'])
          rw [chk_on g _ p' c' 92 1 hel hs1 (by omega)]
          have e2 : (esc (b :: l') ++ 34 :: m).drop 1 = b :: (esc l' ++ 34 :: m) := by rw [e]; rfl
          rw [e2]
          rw [e] at hg
          simp at hg
          obtain ⟨g, rfl⟩ : ∃ g', g = g' + 1 := ⟨g - 1, by omega⟩
          have hs2 : seq (b :: (esc l' ++ 34 :: m)) = some (b.toNat, 1) := seq_ascii (by simpa [at'] using hr)
          rw [chk_on g _ (p' + 1) (c' + 1) b.toNat 1 (by simp) hs2 (by omega)]
          simp only [List.drop_succ_cons, List.drop_zero]
          refine ih l' m _ _ _ _ g (by simp at hf; omega) (by simp; omega) ?_
          rw [chk_fuel g (g + 1) m 0 0 (by omega) (by omega)]; exact hm'
        · have e : esc (b :: l') = b :: esc l' := by simp [esc, hb]
          have hs1 : seq (esc (b :: l') ++ 34 :: m) = some (b.toNat, 1) := by rw [e]; exact seq_ascii (by simpa [at'] using hr)
          by_cases hf2 : b.toNat < 32 ∨ b.toNat = 127
          · rw [chk_form f _ p c b.toNat 1 hl hs hf2, chk_form g _ p' c' b.toNat 1 hel hs1 hf2]
          · rw [chk_on f _ p c b.toNat 1 hl hs hf2, chk_on g _ p' c' b.toNat 1 hel hs1 hf2]
            have e2 : (esc (b :: l') ++ 34 :: m).drop 1 = esc l' ++ 34 :: m := by rw [e]; rfl
            rw [e2]
            rw [e] at hg
            simp at hg
            exact ih l' m _ _ _ _ g (by simp at hf; omega) (by simp; omega) hm'
      · obtain ⟨hhi, hr⟩ := take_high hl0 hs (by omega)
        have e : esc l = l.take n ++ esc (l.drop n) := by
          conv => lhs; rw [← List.take_append_drop n l]
          rw [esc_append, esc_high _ hhi]
        have hlt : (l.take n).length = n := by rw [List.length_take]; omega
        have hs1 : seq (esc l ++ 34 :: m) = some (r, n) := by
          rw [e, List.append_assoc]
          exact seq_append _ (by intro e2; rw [e2] at hlt; simp at hlt; omega) (seq_take hl0 hs)
        rw [chk_on f l p c r n hl hs (by omega), chk_on g _ p' c' r n hel hs1 (by omega)]
        have e2 : (esc l ++ 34 :: m).drop n = esc (l.drop n) ++ 34 :: m := by
          rw [e, List.append_assoc, List.drop_append_of_le_length (by omega), List.drop_of_length_le (by omega), List.nil_append]
        rw [e2]
        rw [e] at hg
        simp at hg
        exact ih (l.drop n) m _ _ _ _ g (by rw [List.length_drop]; omega) (by simp; omega) hm'

/-- a quoted word ahead of a text: a text, if the word is one -/
theorem chk_quo (l m : List UInt8) (f g p c p' c' : Nat) (hf : l.length ≤ f) (hg : (quo l ++ m).length ≤ g) (hm : (chk g m 0 0).2.2 = 0) :
    (chk f l p c).2.2 = 0 ↔ (chk g (quo l ++ m) p' c').2.2 = 0 := by
  unfold quo at hg ⊢
  by_cases h : l ≠ [] ∧ hasB l = false
  · rw [if_pos h] at hg ⊢
    have hml : m.length ≤ g := by rw [List.length_append] at hg; omega
    constructor
    · intro h0
      rw [(chk_shift f l p c p' c').1] at h0
      rw [chk_append f l m p' c' g hf hg h0, (chk_shift g m _ _ 0 0).1]
      exact hm
    · intro h0
      rcases Nat.eq_zero_or_pos (chk f l p c).2.2 with h1 | h1
      · exact h1
      · exfalso
        have h2 : (chk f l p' c').2.2 ≠ 0 := by rw [← (chk_shift f l p c p' c').1]; omega
        exact chk_wrong f l m p' c' g hf hg h2 (head_of_ok g m 0 0 hml hm) h0
  · rw [if_neg h] at hg ⊢
    have e : 34 :: (esc l ++ [34]) ++ m = 34 :: (esc l ++ 34 :: m) := by simp
    rw [e] at hg ⊢
    obtain ⟨g, rfl⟩ : ∃ g', g = g' + 1 := ⟨g - 1, by simp at hg; omega⟩
    have hs : seq (34 :: (esc l ++ 34 :: m)) = some (34, 1) := seq_ascii (by simp [at'])
    rw [chk_on g _ p' c' 34 1 (by simp) hs (by omega)]
    simp only [List.drop_succ_cons, List.drop_zero]
    simp at hg
    exact chk_esc f l m p c _ _ g hf (by simp; omega) (by rw [chk_fuel g (g + 1) m 0 0 (by omega) (by omega)]; exact hm)

theorem quo_length (l : List UInt8) : (quo l).length ≤ 2 * l.length + 2 := by
  have := esc_length l
  unfold quo
  split
  · omega
  · simp; omega

end Go.Proofs.Ytlknklpjlljfjaa.Txt
