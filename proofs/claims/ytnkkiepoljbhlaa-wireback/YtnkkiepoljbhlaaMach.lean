/-
  Plain mathematics: how a text is cut to its words, byte by byte, and that it may be read rune by rune.
-/
import Derived.Test.YtnkkiepoljbhlaaSpec
namespace Go.Proofs.Ytnkkiepoljbhlaa.Txt

/-- the place behind a rune: 0 between words, 1 in a bare one, 2 in a quoted one, 3 behind a backslash, 4 behind a quoted one, 5 nowhere -/
def stepN (st r : Nat) : Nat :=
  if st = 0 then (if r = 32 then 0 else if r = 34 then 2 else 1)
  else if st = 1 then (if r = 32 then 0 else if r = 34 then 5 else 1)
  else if st = 2 then (if r = 34 then 4 else if r = 92 then 3 else 2)
  else if st = 3 then (if r = 34 ∨ r = 92 then 2 else 5)
  else (if r = 32 then 0 else 5)

/-- is the rune between two places one that the word says? -/
def saidB (st nx : Nat) : Bool := decide (nx = 1 ∨ nx = 2 ∧ st ≠ 0)

theorem stepN_le (st r : Nat) : stepN st r ≤ 5 := by
  unfold stepN
  repeat' split
  all_goals omega

def mach : List UInt8 → Nat → List UInt8 → List (List UInt8) → Nat → List (List UInt8) × Nat × Nat
  | [], st, acc, done, p => if st = 2 ∨ st = 3 then ([], p, 4) else if st = 1 ∨ st = 4 then (done ++ [acc], 0, 0) else (done, 0, 0)
  | b :: l, st, acc, done, p =>
    if stepN st b.toNat = 5 then ([], p, 4)
    else if stepN st b.toNat = 0 ∧ st ≠ 0 then mach l 0 [] (done ++ [acc]) (p + 1)
    else if saidB st (stepN st b.toNat) = true then mach l (stepN st b.toNat) (acc ++ [b]) done (p + 1)
    else mach l (stepN st b.toNat) acc done (p + 1)

def words (s : ByteArray) : List (List UInt8) × Nat × Nat :=
  if (check s).2.2 = 0 then mach s.data.toList 0 [] [] 0 else ([], (check s).2.1, (check s).2.2)

theorem step_high (st r : Nat) (h : 128 ≤ r) : stepN st r = if st = 0 ∨ st = 1 then 1 else if st = 2 then 2 else 5 := by
  unfold stepN
  by_cases h0 : st = 0
  · rw [if_pos h0, if_neg (by omega), if_neg (by omega), if_pos (.inl h0)]
  by_cases h1 : st = 1
  · rw [if_neg h0, if_pos h1, if_neg (by omega), if_neg (by omega), if_pos (.inr h1)]
  by_cases h2 : st = 2
  · rw [if_neg h0, if_neg h1, if_pos h2, if_neg (by omega), if_neg (by omega), if_neg (by omega), if_pos h2]
  by_cases h3 : st = 3
  · rw [if_neg h0, if_neg h1, if_neg h2, if_pos h3, if_neg (by omega), if_neg (by omega), if_neg h2]
  · rw [if_neg h0, if_neg h1, if_neg h2, if_neg h3, if_neg (by omega), if_neg (by omega), if_neg h2]

/-- high bytes within a word are all said -/
theorem mach_high (bs l : List UInt8) (hb : ∀ b ∈ bs, 128 ≤ b.toNat) (st : Nat) (hst : st = 1 ∨ st = 2) (acc : List UInt8) (done : List (List UInt8)) (p : Nat) :
    mach (bs ++ l) st acc done p = mach l st (acc ++ bs) done (p + bs.length) := by
  induction bs generalizing acc p with
  | nil => simp
  | cons b bs ih =>
    have h1 := hb b (by simp)
    have hs := step_high st b.toNat h1
    have e : stepN st b.toNat = st := by rw [hs]; rcases hst with rfl | rfl <;> rfl
    have hsd : saidB st st = true := by unfold saidB; simp; omega
    rw [List.cons_append, mach, e, if_neg (by omega), if_neg (by omega), if_pos hsd, ih (fun x hx => hb x (by simp [hx]))]
    simp
    congr 1
    omega

theorem take_high {l : List UInt8} {r n : Nat} (hl : l ≠ []) (h : seq l = some (r, n)) (hn : 2 ≤ n) : (∀ b ∈ l.take n, 128 ≤ b.toNat) ∧ 128 ≤ r := by
  have hw := seq_width hl h
  have key : ∀ k, k < n → 128 ≤ at' l k := by
    intro k hk
    rcases seq_some h with ⟨rfl, h1, h2⟩ | ⟨rfl, h1, h2, h3, h4⟩ | ⟨rfl, h1, h2, h3, h4, h5, h6⟩ | ⟨rfl, h1, h2, h3, h4, h5, h6, h7⟩
    · omega
    · rcases (by omega : k = 0 ∨ k = 1) with rfl | rfl <;> omega
    · rcases (by omega : k = 0 ∨ k = 1 ∨ k = 2) with rfl | rfl | rfl <;> omega
    · rcases (by omega : k = 0 ∨ k = 1 ∨ k = 2 ∨ k = 3) with rfl | rfl | rfl | rfl <;> omega
  refine ⟨?_, ?_⟩
  · intro b hb
    obtain ⟨k, hk, rfl⟩ := List.mem_iff_getElem.1 hb
    have hk2 : k < n := by rw [List.length_take] at hk; omega
    have := key k hk2
    rw [at_in l k (by omega)] at this
    simpa using this
  · rcases seq_some h with h | h | h | h <;> omega

theorem take_one {l : List UInt8} {r : Nat} (hl : l ≠ []) (h : seq l = some (r, 1)) : ∃ b m, l = b :: m ∧ b.toNat = r ∧ r < 128 := by
  obtain ⟨b, m, rfl⟩ := List.exists_cons_of_ne_nil hl
  refine ⟨b, m, rfl, ?_⟩
  rcases seq_some h with h | h | h | h
  · simp [at'] at h; omega
  all_goals omega

/-- A WHOLE RUNE AT A TIME. -/
theorem mach_rune {l : List UInt8} {r n : Nat} (hl : l ≠ []) (h : seq l = some (r, n)) (st : Nat) (acc : List UInt8) (done : List (List UInt8)) (p : Nat) :
    mach l st acc done p =
      if stepN st r = 5 then ([], p, 4)
      else if stepN st r = 0 ∧ st ≠ 0 then mach (l.drop n) 0 [] (done ++ [acc]) (p + n)
      else if saidB st (stepN st r) = true then mach (l.drop n) (stepN st r) (acc ++ l.take n) done (p + n)
      else mach (l.drop n) (stepN st r) acc done (p + n) := by
  have hw := seq_width hl h
  by_cases h1 : n = 1
  · subst h1
    obtain ⟨b, m, rfl, rfl, _⟩ := take_one hl h
    rfl
  · obtain ⟨hb, hr⟩ := take_high hl h (by omega)
    obtain ⟨b, m, rfl⟩ := List.exists_cons_of_ne_nil hl
    obtain ⟨k, rfl⟩ : ∃ k, n = k + 1 := ⟨n - 1, by omega⟩
    have hb0 : 128 ≤ b.toNat := hb b (by simp)
    have hbk : ∀ x ∈ m.take k, 128 ≤ x.toNat := fun x hx => hb x (by simp [hx])
    have e : stepN st b.toNat = stepN st r := by rw [step_high st _ hb0, step_high st _ hr]
    have hsr := step_high st r hr
    rw [mach, e]
    by_cases h5 : stepN st r = 5
    · rw [if_pos h5, if_pos h5]
    have hst : stepN st r = 1 ∨ stepN st r = 2 := by
      rw [hsr] at h5 ⊢
      by_cases a : st = 0 ∨ st = 1
      · rw [if_pos a]; exact .inl rfl
      · by_cases c : st = 2
        · rw [if_neg a, if_pos c]; exact .inr rfl
        · rw [if_neg a, if_neg c] at h5; omega
    have hsd : saidB st (stepN st r) = true := by
      unfold saidB
      rw [hsr] at h5 ⊢
      by_cases a : st = 0 ∨ st = 1
      · rw [if_pos a]; simp
      · by_cases c : st = 2
        · rw [if_neg a, if_pos c]; simp; omega
        · rw [if_neg a, if_neg c] at h5; omega
    have h00 : ¬ (stepN st r = 0 ∧ st ≠ 0) := by omega
    rw [if_neg h5, if_neg h5, if_neg h00, if_neg h00, if_pos hsd, if_pos hsd]
    have hm : m = m.take k ++ m.drop k := (List.take_append_drop k m).symm
    have hlen : (m.take k).length = k := by rw [List.length_take]; simp at hw; omega
    conv => lhs; rw [hm]
    rw [mach_high _ _ hbk _ hst, hlen]
    simp
    congr 1
    omega

theorem chk_ok_step {f : Nat} {l : List UInt8} {p c : Nat} (h : (chk (f + 1) l p c).2.2 = 0) (hl : l.length ≠ 0) :
    ∃ r n, seq l = some (r, n) ∧ (chk f (l.drop n) (p + n) (c + 1)).2.2 = 0 := by
  cases hs : seq l with
  | none => rw [chk_bad f l p c hl hs] at h; simp at h
  | some x =>
    obtain ⟨r, n⟩ := x
    refine ⟨r, n, rfl, ?_⟩
    by_cases hr : r < 32 ∨ r = 127
    · rw [chk_form f l p c r n hl hs hr] at h; simp at h
    · rw [chk_on f l p c r n hl hs hr] at h; exact h

/-- the bytes of a rune are those of its sequence -/
theorem encode_seq {l : List UInt8} {r n : Nat} (hl : l ≠ []) (h : seq l = some (r, n)) : Lib.encodeRune (r : Int) = l.take n := by
  have hw := seq_width hl h
  have ub : ∀ (b : UInt8) (x : Int), x = (b.toNat : Int) → x.toNat.toUInt8 = b := by
    intro b x hx
    subst hx
    simp
  rcases seq_some h with ⟨rfl, h1, h2⟩ | ⟨rfl, h1, h2, h3, h4⟩ | ⟨rfl, h1, h2, h3, h4, h5, h6⟩ | ⟨rfl, h1, h2, h3, h4, h5, h6, h7⟩
  · match l, hl, hw with
    | a :: m, _, _ =>
      simp [at'] at h1 h2
      rw [Lib.encodeRune, Lib.encodeRuneZ_one (by omega) (by omega)]
      simp only [List.map_cons, List.map_nil, List.take_succ_cons, List.take_zero]
      rw [ub a r (by omega)]
  · match l, hl, hw with
    | a :: b :: m, _, _ =>
      have ba := a.toNat_lt
      have bb := b.toNat_lt
      simp only [at', v2, List.getElem?_cons_zero, List.getElem?_cons_succ, Option.getD_some] at h1 h2 h3
      rw [Lib.encodeRune, Lib.encodeRuneZ_two (by omega) (by omega)]
      simp only [List.map_cons, List.map_nil, List.take_succ_cons, List.take_zero]
      rw [ub a _ (by omega), ub b _ (by omega)]
  · match l, hl, hw with
    | a :: b :: c :: m, _, _ =>
      have ba := a.toNat_lt
      have bb := b.toNat_lt
      have bc := c.toNat_lt
      simp only [at', v3, List.getElem?_cons_zero, List.getElem?_cons_succ, Option.getD_some] at h1 h2 h3 h4
      rw [Lib.encodeRune, Lib.encodeRuneZ_three (by omega)]
      simp only [List.map_cons, List.map_nil, List.take_succ_cons, List.take_zero]
      rw [ub a _ (by omega), ub b _ (by omega), ub c _ (by omega)]
  · match l, hl, hw with
    | a :: b :: c :: d :: m, _, _ =>
      have ba := a.toNat_lt
      have bb := b.toNat_lt
      have bc := c.toNat_lt
      have bd := d.toNat_lt
      simp only [at', v4, List.getElem?_cons_zero, List.getElem?_cons_succ, Option.getD_some] at h1 h2 h3 h4 h5
      rw [Lib.encodeRune, Lib.encodeRuneZ_four (by omega) (by omega)]
      simp only [List.map_cons, List.map_nil, List.take_succ_cons, List.take_zero]
      rw [ub a _ (by omega), ub b _ (by omega), ub c _ (by omega), ub d _ (by omega)]

end Go.Proofs.Ytnkkiepoljbhlaa.Txt
