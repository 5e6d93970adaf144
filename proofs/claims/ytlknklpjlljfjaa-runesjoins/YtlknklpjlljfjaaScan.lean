/-
  Plain mathematics: how the reference cuts a text to its words: a quoted word at a time, a bare word at a time.
-/
import Derived.Test.YtlknklpjlljfjaaMach
namespace Go.Proofs.Ytlknklpjlljfjaa.Txt

/-- what stands behind a quotation mark: what the word says, the place behind its end, and whether it ends; else the place of the fault -/
def qs : List UInt8 → List UInt8 → Nat → List UInt8 × Nat × Bool
  | [], _, p => ([], p, false)
  | [b], acc, p => if b.toNat = 34 then (acc, p + 1, true) else ([], p + 1, false)
  | b :: c :: l, acc, p =>
    if b.toNat = 34 then (acc, p + 1, true)
    else if b.toNat = 92 then (if c.toNat = 34 ∨ c.toNat = 92 then qs l (acc ++ [c]) (p + 2) else ([], p + 1, false))
    else qs (c :: l) (acc ++ [b]) (p + 1)

theorem qs_close (b : UInt8) (l acc : List UInt8) (p : Nat) (h : b.toNat = 34) : qs (b :: l) acc p = (acc, p + 1, true) := by
  cases l <;> simp [qs, h]
theorem qs_on (b : UInt8) (l acc : List UInt8) (p : Nat) (h1 : b.toNat ≠ 34) (h2 : b.toNat ≠ 92) : qs (b :: l) acc p = qs l (acc ++ [b]) (p + 1) := by
  cases l <;> simp [qs, h1, h2]
theorem qs_esc (b c : UInt8) (l acc : List UInt8) (p : Nat) (h1 : b.toNat = 92) (h2 : c.toNat = 34 ∨ c.toNat = 92) : qs (b :: c :: l) acc p = qs l (acc ++ [c]) (p + 2) := by
  simp only [qs]; rw [if_neg (by omega), if_pos h1, if_pos h2]
theorem qs_bad (b c : UInt8) (l acc : List UInt8) (p : Nat) (h1 : b.toNat = 92) (h2 : ¬ (c.toNat = 34 ∨ c.toNat = 92)) : qs (b :: c :: l) acc p = ([], p + 1, false) := by
  simp only [qs]; rw [if_neg (by omega), if_pos h1, if_neg h2]
theorem qs_last (b : UInt8) (acc : List UInt8) (p : Nat) (h1 : b.toNat = 92) : qs [b] acc p = ([], p + 1, false) := by
  simp only [qs]; rw [if_neg (by omega)]

theorem qs_ge : ∀ (l acc : List UInt8) (p : Nat), p ≤ (qs l acc p).2.1
  | [], _, p => by simp [qs]
  | [b], acc, p => by simp only [qs]; split <;> simp
  | b :: c :: l, acc, p => by
    have h1 := qs_ge l (acc ++ [c]) (p + 2)
    have h2 := qs_ge (c :: l) (acc ++ [b]) (p + 1)
    simp only [qs]
    split
    · simp
    split
    · split
      · omega
      · simp
    · omega

theorem qs_le : ∀ (l acc : List UInt8) (p : Nat), (qs l acc p).2.1 ≤ p + l.length
  | [], _, p => by simp [qs]
  | [b], acc, p => by simp only [qs]; split <;> simp
  | b :: c :: l, acc, p => by
    have h1 := qs_le l (acc ++ [c]) (p + 2)
    have h2 := qs_le (c :: l) (acc ++ [b]) (p + 1)
    simp only [qs]
    simp at h2
    split
    · simp
    split
    · split
      · simp; omega
      · simp
    · simp; omega

/-- the machine within a quoted word -/
theorem mach_qs (n : Nat) : ∀ (l acc : List UInt8) (done : List (List UInt8)) (p : Nat), l.length ≤ n →
    mach l 2 acc done p = if (qs l acc p).2.2 = true then mach (l.drop ((qs l acc p).2.1 - p)) 4 (qs l acc p).1 done (qs l acc p).2.1 else ([], (qs l acc p).2.1, 4) := by
  induction n with
  | zero =>
    intro l acc done p h
    have : l = [] := List.length_eq_zero_iff.1 (by omega)
    subst this
    simp [mach, qs]
  | succ n ih =>
    intro l acc done p h
    match l, h with
    | [], _ => simp [mach, qs]
    | b :: m, h =>
      simp at h
      by_cases h34 : b.toNat = 34
      · rw [qs_close b m acc p h34]
        rw [mach]
        simp [h34, stepN, saidB]
      by_cases h92 : b.toNat = 92
      · match m, h with
        | [], _ =>
          rw [qs_last b acc p h92]
          simp [mach, h92, stepN, saidB]
        | c :: m', h =>
          simp at h
          by_cases hc : c.toNat = 34 ∨ c.toNat = 92
          · rw [qs_esc b c m' acc p h92 hc]
            have e1 : mach (b :: c :: m') 2 acc done p = mach m' 2 (acc ++ [c]) done (p + 2) := by
              rw [mach]
              have s1 : stepN 2 b.toNat = 3 := by simp [stepN, h92]
              have s2 : stepN 3 c.toNat = 2 := by simp [stepN, hc]
              rw [s1, if_neg (by omega), if_neg (by omega), if_neg (by simp [saidB]), mach, s2, if_neg (by omega), if_neg (by omega), if_pos (by simp [saidB])]
            rw [e1, ih m' (acc ++ [c]) done (p + 2) (by omega)]
            by_cases ht : (qs m' (acc ++ [c]) (p + 2)).2.2 = true
            · rw [if_pos ht, if_pos ht]
              have hge := qs_ge m' (acc ++ [c]) (p + 2) 
              rw [show (qs m' (acc ++ [c]) (p + 2)).2.1 - p = (qs m' (acc ++ [c]) (p + 2)).2.1 - (p + 2) + 1 + 1 from by omega, List.drop_succ_cons, List.drop_succ_cons]
            · rw [if_neg ht, if_neg ht]
          · rw [qs_bad b c m' acc p h92 hc]
            have s1 : stepN 2 b.toNat = 3 := by simp [stepN, h92]
            have s2 : stepN 3 c.toNat = 5 := by simp only [stepN]; rw [if_neg (by omega), if_neg (by omega), if_neg (by omega), if_pos trivial, if_neg hc]
            rw [mach, s1, if_neg (by omega), if_neg (by omega), if_neg (by simp [saidB]), mach, s2]
            simp
      · rw [qs_on b m acc p h34 h92]
        have s1 : stepN 2 b.toNat = 2 := by simp [stepN, h34, h92]
        rw [mach, s1, if_neg (by omega), if_neg (by omega), if_pos (by simp [saidB]), ih m (acc ++ [b]) done (p + 1) (by omega)]
        by_cases ht : (qs m (acc ++ [b]) (p + 1)).2.2 = true
        · rw [if_pos ht, if_pos ht]
          have hge := qs_ge m (acc ++ [b]) (p + 1)
          rw [show (qs m (acc ++ [b]) (p + 1)).2.1 - p = (qs m (acc ++ [b]) (p + 1)).2.1 - (p + 1) + 1 from by omega, List.drop_succ_cons]
        · rw [if_neg ht, if_neg ht]
/-- what ends a word, and what it is read as behind it -/
theorem mach_ended (l : List UInt8) (st : Nat) (hst : st = 1 ∨ st = 4) (acc : List UInt8) (done : List (List UInt8)) (p : Nat) (h : l = [] ∨ ∃ b m, l = b :: m ∧ b.toNat = 32) :
    mach l st acc done p = mach l 0 [] (done ++ [acc]) p := by
  rcases h with rfl | ⟨b, m, rfl, hb⟩
  · rcases hst with rfl | rfl <;> simp [mach]
  · have s0 : stepN 0 b.toNat = 0 := by simp [stepN, hb]
    have s1 : stepN st b.toNat = 0 := by rcases hst with rfl | rfl <;> simp [stepN, hb]
    rw [mach, mach, s0, s1, if_neg (by omega), if_pos ⟨rfl, by omega⟩, if_neg (by omega), if_neg (by simp), if_neg (by simp [saidB])]

/-- behind a quoted word there is a blank, or nothing -/
theorem mach_closed_bad (b : UInt8) (m acc : List UInt8) (done : List (List UInt8)) (p : Nat) (h : b.toNat ≠ 32) : mach (b :: m) 4 acc done p = ([], p, 4) := by
  have s1 : stepN 4 b.toNat = 5 := by simp [stepN, h]
  rw [mach, s1]; simp

theorem mach_blank (b : UInt8) (m acc : List UInt8) (done : List (List UInt8)) (p : Nat) (h : b.toNat = 32) : mach (b :: m) 0 acc done p = mach m 0 acc done (p + 1) := by
  have s1 : stepN 0 b.toNat = 0 := by simp [stepN, h]
  rw [mach, s1]; simp [saidB]

theorem mach_open (b : UInt8) (m acc : List UInt8) (done : List (List UInt8)) (p : Nat) (h : b.toNat = 34) : mach (b :: m) 0 acc done p = mach m 2 acc done (p + 1) := by
  have s1 : stepN 0 b.toNat = 2 := by simp [stepN, h]
  rw [mach, s1]; simp [saidB]

theorem mach_begin (b : UInt8) (m : List UInt8) (done : List (List UInt8)) (p : Nat) (h1 : b.toNat ≠ 32) (h2 : b.toNat ≠ 34) : mach (b :: m) 0 [] done p = mach (b :: m) 1 [] done p := by
  have s0 : stepN 0 b.toNat = 1 := by simp [stepN, h1, h2]
  have s1 : stepN 1 b.toNat = 1 := by simp [stepN, h1, h2]
  rw [mach, mach, s0, s1]; simp [saidB]

theorem mach_bare (b : UInt8) (m acc : List UInt8) (done : List (List UInt8)) (p : Nat) (h1 : b.toNat ≠ 32) (h2 : b.toNat ≠ 34) : mach (b :: m) 1 acc done p = mach m 1 (acc ++ [b]) done (p + 1) := by
  have s1 : stepN 1 b.toNat = 1 := by simp [stepN, h1, h2]
  rw [mach, s1]; simp [saidB]

theorem mach_bare_bad (b : UInt8) (m acc : List UInt8) (done : List (List UInt8)) (p : Nat) (h : b.toNat = 34) : mach (b :: m) 1 acc done p = ([], p, 4) := by
  have s1 : stepN 1 b.toNat = 5 := by simp [stepN, h]
  rw [mach, s1]; simp

end Go.Proofs.Ytlknklpjlljfjaa.Txt
