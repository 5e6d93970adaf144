/-
  Plain mathematics: which lists of bytes are names, told in two ways that agree; and two texts one behind the other.
-/
import Derived.Test.YtnkkiepoljbhlaaMach
namespace Go.Proofs.Ytnkkiepoljbhlaa.Txt

def inN (r : Nat) : Bool := decide ((97 ≤ r ∧ r ≤ 122) ∨ (48 ≤ r ∧ r ≤ 57) ∨ r = 45 ∨ r = 95 ∨ (945 ≤ r ∧ r ≤ 969))

theorem inN_text {r : Nat} (h : inN r = true) : ¬ (r < 32 ∨ r = 127) := by
  simp [inN] at h; omega

/-- rune by rune, with a count -/
def nm : Nat → List UInt8 → Nat → Bool
  | 0, _, c => decide (0 < c)
  | f + 1, l, c =>
    if l.length = 0 then decide (0 < c)
    else match seq l with
      | none => false
      | some (r, n) => if 16 < c + 1 ∨ inN r = false then false else nm f (l.drop n) (c + 1)

def name (s : ByteArray) : Bool := nm s.size s.data.toList 0

theorem nm_end (f : Nat) (l : List UInt8) (c : Nat) (h : l.length = 0) : nm f l c = decide (0 < c) := by cases f <;> simp [nm, h]
theorem nm_none (f : Nat) (l : List UInt8) (c : Nat) (h : l.length ≠ 0) (hs : seq l = none) : nm (f + 1) l c = false := by simp [nm, h, hs]
theorem nm_some (f : Nat) (l : List UInt8) (c r n : Nat) (h : l.length ≠ 0) (hs : seq l = some (r, n)) : nm (f + 1) l c = if 16 < c + 1 ∨ inN r = false then false else nm f (l.drop n) (c + 1) := by simp [nm, h, hs]

/-- are all runes ones of names? -/
def allIn : Nat → List UInt8 → Bool
  | 0, _ => true
  | f + 1, l =>
    if l.length = 0 then true
    else match seq l with
      | none => false
      | some (r, n) => if inN r = true then allIn f (l.drop n) else false

theorem allIn_end (f : Nat) (l : List UInt8) (h : l.length = 0) : allIn f l = true := by cases f <;> simp [allIn, h]
theorem allIn_some (f : Nat) (l : List UInt8) (r n : Nat) (h : l.length ≠ 0) (hs : seq l = some (r, n)) : allIn (f + 1) l = if inN r = true then allIn f (l.drop n) else false := by simp [allIn, h, hs]

theorem chk_count (f : Nat) : ∀ (l : List UInt8) (p c : Nat), (chk f l p c).2.2 = 0 → c ≤ (chk f l p c).1 := by
  induction f with
  | zero => intro l p c _; simp [chk]
  | succ f ih =>
    intro l p c h
    by_cases hl : l.length = 0
    · rw [chk_end _ _ _ _ hl]; exact Nat.le_refl _
    cases hs : seq l with
    | none => rw [chk_bad f l p c hl hs] at h; simp at h
    | some x =>
      obtain ⟨r, n⟩ := x
      by_cases hr : r < 32 ∨ r = 127
      · rw [chk_form f l p c r n hl hs hr] at h; simp at h
      · rw [chk_on f l p c r n hl hs hr] at h ⊢
        have := ih _ _ _ h
        omega

theorem nm_eq (f : Nat) : ∀ (l : List UInt8) (p c : Nat), l.length ≤ f → c ≤ 16 →
    nm f l c = (allIn f l && decide ((chk f l p c).2.2 = 0 ∧ 1 ≤ (chk f l p c).1 ∧ (chk f l p c).1 ≤ 16)) := by
  induction f with
  | zero =>
    intro l p c hl hc
    simp only [nm, allIn, chk, Bool.true_and, decide_eq_decide]
    exact ⟨fun h => ⟨trivial, h, hc⟩, fun h => h.2.1⟩
  | succ f ih =>
    intro l p c hlf hc
    by_cases hl : l.length = 0
    · rw [nm_end _ _ _ hl, allIn_end _ _ hl, chk_end _ _ _ _ hl]
      simp only [Bool.true_and, decide_eq_decide]
      exact ⟨fun h => ⟨trivial, h, hc⟩, fun h => h.2.1⟩
    cases hs : seq l with
    | none => rw [nm_none f l c hl hs, chk_bad f l p c hl hs]; simp
    | some x =>
      obtain ⟨r, n⟩ := x
      have hw := seq_width (by intro e; rw [e] at hl; simp at hl) hs
      rw [nm_some f l c r n hl hs, allIn_some f l r n hl hs]
      by_cases hin : inN r = true
      · rw [if_pos hin, chk_on f l p c r n hl hs (inN_text hin)]
        by_cases h16 : 16 < c + 1
        · rw [if_pos (.inl h16)]
          symm
          rw [Bool.and_eq_false_iff]
          right
          simp only [decide_eq_false_iff_not]
          rintro ⟨h0, _, h1⟩
          have := chk_count f _ _ _ h0
          omega
        · rw [if_neg (by simp [hin]; omega)]
          exact ih _ _ _ (by rw [List.length_drop]; omega) (by omega)
      · rw [if_neg hin, if_pos (.inr (by simpa using hin))]
        simp

/-- the second way: a text, of one to sixteen runes, all of names -/
def name2 (s : ByteArray) : Bool :=
  if (check s).2.2 = 0 ∧ 1 ≤ (check s).1 ∧ (check s).1 ≤ 16 then allIn s.size s.data.toList else false

theorem name_eq (s : ByteArray) : name s = name2 s := by
  unfold name name2 check
  rw [nm_eq s.size s.data.toList 0 0 (by rw [← Lib.size_eq]; exact Nat.le_refl _) (by omega)]
  by_cases h : (chk s.size s.data.toList 0 0).2.2 = 0 ∧ 1 ≤ (chk s.size s.data.toList 0 0).1 ∧ (chk s.size s.data.toList 0 0).1 ≤ 16
  · rw [if_pos h]; simp [h]
  · rw [if_neg h]; simp [h]

/-! ### Two texts, one behind the other -/

/-- more fuel than bytes changes nothing -/
theorem chk_fuel (f : Nat) : ∀ (g : Nat) (l : List UInt8) (p c : Nat), l.length ≤ f → l.length ≤ g → chk f l p c = chk g l p c := by
  induction f with
  | zero =>
    intro g l p c hf _
    rw [chk_end 0 l p c (by omega), chk_end g l p c (by omega)]
  | succ f ih =>
    intro g l p c hf hg
    by_cases hl : l.length = 0
    · rw [chk_end _ l p c hl, chk_end g l p c hl]
    obtain ⟨g, rfl⟩ : ∃ g', g = g' + 1 := ⟨g - 1, by omega⟩
    cases hs : seq l with
    | none => rw [chk_bad f l p c hl hs, chk_bad g l p c hl hs]
    | some x =>
      obtain ⟨r, n⟩ := x
      have hw := seq_width (by intro e; rw [e] at hl; simp at hl) hs
      by_cases hr : r < 32 ∨ r = 127
      · rw [chk_form f l p c r n hl hs hr, chk_form g l p c r n hl hs hr]
      · rw [chk_on f l p c r n hl hs hr, chk_on g l p c r n hl hs hr]
        exact ih _ _ _ _ (by rw [List.length_drop]; omega) (by rw [List.length_drop]; omega)

/-- where the list stands, and how many runes are ahead of it, shows in the answer alone -/
theorem chk_shift (f : Nat) : ∀ (l : List UInt8) (p c q d : Nat), (chk f l p c).2.2 = (chk f l q d).2.2 ∧ ((chk f l p c).2.2 = 0 → (chk f l p c).1 + d = (chk f l q d).1 + c) ∧ ((chk f l p c).2.2 ≠ 0 → (chk f l p c).1 = 0) := by
  induction f with
  | zero => intro l p c q d; simp [chk]; omega
  | succ f ih =>
    intro l p c q d
    by_cases hl : l.length = 0
    · rw [chk_end _ l p c hl, chk_end _ l q d hl]; simp; omega
    cases hs : seq l with
    | none => rw [chk_bad f l p c hl hs, chk_bad f l q d hl hs]; simp
    | some x =>
      obtain ⟨r, n⟩ := x
      by_cases hr : r < 32 ∨ r = 127
      · rw [chk_form f l p c r n hl hs hr, chk_form f l q d r n hl hs hr]; simp
      · rw [chk_on f l p c r n hl hs hr, chk_on f l q d r n hl hs hr]
        have h := ih (l.drop n) (p + n) (c + 1) (q + n) (d + 1)
        refine ⟨h.1, fun h0 => ?_, h.2.2⟩
        have := h.2.1 h0
        omega

/-- a whole text ahead: its runes are counted, and the rest is read from there -/
theorem chk_append (f : Nat) : ∀ (l m : List UInt8) (p c g : Nat), l.length ≤ f → (l ++ m).length ≤ g → (chk f l p c).2.2 = 0 →
    chk g (l ++ m) p c = chk g m (p + l.length) (chk f l p c).1 := by
  induction f with
  | zero =>
    intro l m p c g hf hg _
    have : l = [] := List.length_eq_zero_iff.1 (by omega)
    subst this
    simp [chk]
  | succ f ih =>
    intro l m p c g hf hg h0
    by_cases hl : l.length = 0
    · have : l = [] := List.length_eq_zero_iff.1 hl
      subst this
      simp [chk]
    have hne : l ≠ [] := by intro e; rw [e] at hl; simp at hl
    cases hs : seq l with
    | none => rw [chk_bad f l p c hl hs] at h0; simp at h0
    | some x =>
      obtain ⟨r, n⟩ := x
      have hw := seq_width hne hs
      by_cases hr : r < 32 ∨ r = 127
      · rw [chk_form f l p c r n hl hs hr] at h0; simp at h0
      · rw [chk_on f l p c r n hl hs hr] at h0 ⊢
        obtain ⟨g, rfl⟩ : ∃ g', g = g' + 1 := ⟨g - 1, by simp at hg; omega⟩
        rw [chk_on g (l ++ m) p c r n (by rw [List.length_append]; omega) (seq_append m hne hs) hr, List.drop_append_of_le_length (by omega)]
        rw [ih (l.drop n) m (p + n) (c + 1) g (by rw [List.length_drop]; omega) (by simp at hg ⊢; omega) h0]
        rw [List.length_drop, show p + n + (l.length - n) = p + l.length from by omega]
        by_cases hm : m.length = 0
        · rw [chk_end _ _ _ _ hm, chk_end _ _ _ _ hm]
        · exact chk_fuel _ _ _ _ _ (by simp at hg; omega) (by simp at hg; omega)

/-- the first byte of what isn't the rest of a sequence -/
theorem seq_head {m : List UInt8} {r n : Nat} (h : seq m = some (r, n)) : at' m 0 / 64 ≠ 2 := by
  rcases seq_some h with h | h | h | h <;> omega

/-- a broken sequence stays broken with a whole one behind it -/
theorem seq_broken {l m : List UInt8} (hl : l ≠ []) (h : seq l = none) (hm : at' m 0 / 64 ≠ 2) : seq (l ++ m) = none := by
  cases hs : seq (l ++ m) with
  | none => rfl
  | some x =>
    obtain ⟨r, n⟩ := x
    have hne : l ++ m ≠ [] := by simp [hl]
    have hw := seq_width hne hs
    by_cases hn : n ≤ l.length
    · have ht := seq_take hne hs
      rw [List.take_append_of_le_length hn] at ht
      have := seq_append (l.drop n) (by
        intro e
        have := congrArg List.length e
        rw [List.length_take, List.length_nil] at this
        have := List.length_pos_iff.2 hl
        omega) ht
      rw [List.take_append_drop, h] at this
      cases this
    · exfalso
      have hc : at' (l ++ m) l.length / 64 = 2 := by
        have h0 : 0 < l.length := List.length_pos_iff.2 hl
        rcases seq_some hs with ⟨rfl, _⟩ | ⟨rfl, _, h1, _⟩ | ⟨rfl, _, h1, h2, _⟩ | ⟨rfl, _, h1, h2, h3, _⟩
        · omega
        · rw [show l.length = 1 from by omega]; exact h1
        · rcases (by omega : l.length = 1 ∨ l.length = 2) with e | e
          · rw [e]; exact h1
          · rw [e]; exact h2
        · rcases (by omega : l.length = 1 ∨ l.length = 2 ∨ l.length = 3) with e | e | e
          · rw [e]; exact h1
          · rw [e]; exact h2
          · rw [e]; exact h3
      have e : at' (l ++ m) l.length = at' m 0 := by unfold at'; rw [List.getElem?_append_right (Nat.le_refl _), Nat.sub_self]
      rw [e] at hc
      exact hm hc

/-- a wrong text ahead of a whole one: wrong -/
theorem chk_wrong (f : Nat) : ∀ (l m : List UInt8) (p c g : Nat), l.length ≤ f → (l ++ m).length ≤ g → (chk f l p c).2.2 ≠ 0 → (m ≠ [] → at' m 0 / 64 ≠ 2) →
    (chk g (l ++ m) p c).2.2 ≠ 0 := by
  induction f with
  | zero =>
    intro l m p c g hf hg h0 _
    rw [chk_end 0 l p c (by omega)] at h0
    simp at h0
  | succ f ih =>
    intro l m p c g hf hg h0 hm
    by_cases hl : l.length = 0
    · rw [chk_end _ l p c hl] at h0; simp at h0
    have hne : l ≠ [] := by intro e; rw [e] at hl; simp at hl
    obtain ⟨g, rfl⟩ : ∃ g', g = g' + 1 := ⟨g - 1, by simp at hg; omega⟩
    cases hs : seq l with
    | none =>
      by_cases hm0 : m = []
      · subst hm0
        rw [List.append_nil, chk_bad g l p c hl hs]
        simp
      · rw [chk_bad g (l ++ m) p c (by rw [List.length_append]; omega) (seq_broken hne hs (hm hm0))]
        simp
    | some x =>
      obtain ⟨r, n⟩ := x
      have hw := seq_width hne hs
      by_cases hr : r < 32 ∨ r = 127
      · rw [chk_form g (l ++ m) p c r n (by rw [List.length_append]; omega) (seq_append m hne hs) hr]
        simp
      · rw [chk_on f l p c r n hl hs hr] at h0
        rw [chk_on g (l ++ m) p c r n (by rw [List.length_append]; omega) (seq_append m hne hs) hr, List.drop_append_of_le_length (by omega)]
        exact ih _ _ _ _ _ (by rw [List.length_drop]; omega) (by simp at hg ⊢; omega) h0 hm

theorem head_of_ok (f : Nat) (m : List UInt8) (p c : Nat) (hf : m.length ≤ f) (h : (chk f m p c).2.2 = 0) : m ≠ [] → at' m 0 / 64 ≠ 2 := by
  intro hm
  have hl : m.length ≠ 0 := fun e => hm (List.length_eq_zero_iff.1 e)
  obtain ⟨f, rfl⟩ : ∃ f', f = f' + 1 := ⟨f - 1, by omega⟩
  obtain ⟨r, n, hs, _⟩ := chk_ok_step h hl
  exact seq_head hs

end Go.Proofs.Ytnkkiepoljbhlaa.Txt
