/-
  Plain mathematics on names: what a name is as a text and as a word, and names one behind the other.
-/
import Derived.Test.YtlknklpjlljfjaaQlaw
namespace Go.Proofs.Ytlknklpjlljfjaa.Txt

/-- a rune of 7 bits that is none of names, at the end -/
theorem nm_tail (b : UInt8) (hb : b.toNat < 128) (hin : inN b.toNat = false) (f : Nat) : ∀ (l : List UInt8) (c : Nat), (l ++ [b]).length ≤ f → nm f (l ++ [b]) c = false := by
  induction f with
  | zero => intro l c h; simp at h
  | succ f ih =>
    intro l c h
    have hne : l ++ [b] ≠ [] := by simp
    have hl0 : (l ++ [b]).length ≠ 0 := by simp
    cases hs : seq (l ++ [b]) with
    | none => exact nm_none f _ c hl0 hs
    | some x =>
      obtain ⟨r, n⟩ := x
      rw [nm_some f _ c r n hl0 hs]
      by_cases hl : l = []
      · subst hl
        rw [List.nil_append, seq_ascii (by simpa [at'] using hb)] at hs
        simp [at'] at hs
        rw [if_pos (.inr (by rw [← hs.1]; exact hin))]
      · have hw := seq_width hne hs
        have hn : n ≤ l.length := by
          rcases Nat.lt_or_ge l.length n with h' | h'
          · exfalso
            have h0 : 0 < l.length := List.length_pos_iff.2 hl
            have hh := (take_high hne hs (by omega)).1 b (by
              rw [List.take_of_length_le (by simp; omega)]; simp)
            omega
          · exact h'
        split
        · rfl
        · rw [List.drop_append_of_le_length hn]
          exact ih _ _ (by simp at h ⊢; omega)

/-- .. and at the head -/
theorem nm_head (b : UInt8) (hb : b.toNat < 128) (hin : inN b.toNat = false) (f : Nat) (l : List UInt8) (c : Nat) (hf : 0 < f) : nm f (b :: l) c = false := by
  obtain ⟨f, rfl⟩ : ∃ f', f = f' + 1 := ⟨f - 1, by omega⟩
  have hs : seq (b :: l) = some (b.toNat, 1) := by rw [seq_ascii (by simpa [at'] using hb)]; simp [at']
  rw [nm_some f _ c b.toNat 1 (by simp) hs, if_pos (.inr hin)]

theorem nm_size (f : Nat) : ∀ (l : List UInt8) (c : Nat), l.length ≤ f → c ≤ 16 → nm f l c = true → l.length ≤ 4 * (16 - c) := by
  induction f with
  | zero => intro l c h _ _; omega
  | succ f ih =>
    intro l c hf hc h
    by_cases hl : l.length = 0
    · omega
    cases hs : seq l with
    | none => rw [nm_none f l c hl hs] at h; cases h
    | some x =>
      obtain ⟨r, n⟩ := x
      have hw := seq_width (by intro e; rw [e] at hl; simp at hl) hs
      rw [nm_some f l c r n hl hs] at h
      split at h
      · cases h
      · have := ih (l.drop n) (c + 1) (by rw [List.length_drop]; omega) (by omega) h
        rw [List.length_drop] at this
        omega

theorem allIn_hasB (f : Nat) : ∀ l : List UInt8, l.length ≤ f → allIn f l = true → hasB l = false := by
  induction f with
  | zero =>
    intro l h _
    have : l = [] := List.length_eq_zero_iff.1 (by omega)
    subst this
    rfl
  | succ f ih =>
    intro l hf h
    by_cases hl0 : l = []
    · subst hl0; rfl
    have hl : l.length ≠ 0 := fun e => hl0 (List.length_eq_zero_iff.1 e)
    cases hs : seq l with
    | none => simp [allIn, hl, hs] at h
    | some x =>
      obtain ⟨r, n⟩ := x
      have hw := seq_width hl0 hs
      rw [allIn_some f l r n hl hs] at h
      split at h
      · rename_i hin
        have hrest := ih (l.drop n) (by rw [List.length_drop]; omega) h
        have e : l = l.take n ++ l.drop n := (List.take_append_drop n l).symm
        rw [e]
        unfold hasB at hrest ⊢
        rw [List.any_append, hrest, Bool.or_false]
        rw [List.any_eq_false]
        intro b hb
        by_cases hn1 : n = 1
        · subst hn1
          obtain ⟨b', m, rfl, rfl, _⟩ := take_one hl0 hs
          simp at hb
          subst hb
          simp [inN] at hin
          simp
          omega
        · have := (take_high hl0 hs (by omega)).1 b hb
          simp
          omega
      · cases h

theorem allIn_fuel : ∀ (f g : Nat) (l : List UInt8), l.length ≤ f → l.length ≤ g → allIn f l = true → allIn g l = true
  | 0, g, l, hf, _, _ => allIn_end g l (by omega)
  | f + 1, g, l, hf, hg, h => by
    by_cases hl : l.length = 0
    · exact allIn_end g l hl
    obtain ⟨g, rfl⟩ : ∃ g', g = g' + 1 := ⟨g - 1, by omega⟩
    cases hs : seq l with
    | none => simp [allIn, hl, hs] at h
    | some x =>
      obtain ⟨r, n⟩ := x
      have hw := seq_width (by intro e; rw [e] at hl; simp at hl) hs
      rw [allIn_some f l r n hl hs] at h
      split at h
      · rename_i hin
        rw [allIn_some g l r n hl hs, if_pos hin]
        exact allIn_fuel f g (l.drop n) (by rw [List.length_drop]; omega) (by rw [List.length_drop]; omega) h
      · cases h

theorem allIn_append (f : Nat) : ∀ (l m : List UInt8) (g h : Nat), l.length ≤ f → (l ++ m).length ≤ h → m.length ≤ g → allIn f l = true → allIn g m = true → allIn h (l ++ m) = true := by
  induction f with
  | zero =>
    intro l m g h hf hh hg _ hm
    have : l = [] := List.length_eq_zero_iff.1 (by omega)
    subst this
    rw [List.nil_append] at hh ⊢
    exact allIn_fuel g h m hg hh hm
  | succ f ih =>
    intro l m g h hf hh hg hl hm
    by_cases hl0 : l = []
    · subst hl0
      rw [List.nil_append] at hh ⊢
      exact allIn_fuel g h m hg hh hm
    have hln : l.length ≠ 0 := fun e => hl0 (List.length_eq_zero_iff.1 e)
    cases hs : seq l with
    | none => simp [allIn, hln, hs] at hl
    | some x =>
      obtain ⟨r, n⟩ := x
      have hw := seq_width hl0 hs
      rw [allIn_some f l r n hln hs] at hl
      split at hl
      · rename_i hin
        obtain ⟨h, rfl⟩ : ∃ h', h = h' + 1 := ⟨h - 1, by rw [List.length_append] at hh; omega⟩
        rw [allIn_some h (l ++ m) r n (by rw [List.length_append]; omega) (seq_append m hl0 hs), if_pos hin, List.drop_append_of_le_length (by omega)]
        exact ih (l.drop n) m g h (by rw [List.length_drop]; omega) (by rw [List.length_append] at hh ⊢; rw [List.length_drop]; omega) hg hl hm
      · cases hl
end Go.Proofs.Ytlknklpjlljfjaa.Txt
