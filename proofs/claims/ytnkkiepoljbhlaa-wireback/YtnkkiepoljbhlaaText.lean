/-
  Plain mathematics on lists of bytes: the sequences of UTF-8 at the head of a list, and the model's own decoding told by them.
-/
import Derived.Laws.RangeAny
import Derived.Lib.Strings
import Derived.Lib.RuneBytes
namespace Go.Proofs.Ytnkkiepoljbhlaa.Txt

/-- the byte at a place; 0 where there is none -/
def at' (l : List UInt8) (k : Nat) : Nat := (l[k]?.getD 0).toNat

theorem at_lt (l : List UInt8) (k : Nat) : at' l k < 256 := (l[k]?.getD 0).toNat_lt
theorem at_out (l : List UInt8) (k : Nat) (h : l.length ≤ k) : at' l k = 0 := by
  simp [at', List.getElem?_eq_none h]
theorem at_in (l : List UInt8) (k : Nat) (h : k < l.length) : at' l k = (l[k]'h).toNat := by
  simp [at', List.getElem?_eq_getElem h]
theorem at_append (l m : List UInt8) (k : Nat) (h : k < l.length) : at' (l ++ m) k = at' l k := by
  simp [at', List.getElem?_append_left h]
theorem at_drop (l : List UInt8) (i k : Nat) : at' (l.drop i) k = at' l (i + k) := by
  simp [at', List.getElem?_drop]
theorem at_take (l : List UInt8) (n k : Nat) (h : k < n) : at' (l.take n) k = at' l k := by
  simp [at', h]

def v2 (l : List UInt8) : Nat := at' l 0 % 32 * 64 + at' l 1 % 64
def v3 (l : List UInt8) : Nat := (at' l 0 % 16 * 64 + at' l 1 % 64) * 64 + at' l 2 % 64
def v4 (l : List UInt8) : Nat := ((at' l 0 % 8 * 64 + at' l 1 % 64) * 64 + at' l 2 % 64) * 64 + at' l 3 % 64

/-- the rune whose sequence stands at the head of a list that isn't empty, and how many bytes it has -/
def seq (l : List UInt8) : Option (Nat × Nat) :=
  if at' l 0 < 128 then some (at' l 0, 1)
  else if at' l 0 / 32 = 6 then (if at' l 1 / 64 = 2 ∧ 128 ≤ v2 l then some (v2 l, 2) else none)
  else if at' l 0 / 16 = 14 then (if at' l 1 / 64 = 2 ∧ at' l 2 / 64 = 2 ∧ 2048 ≤ v3 l ∧ ¬ (55296 ≤ v3 l ∧ v3 l ≤ 57343) then some (v3 l, 3) else none)
  else if at' l 0 / 8 = 30 then (if at' l 1 / 64 = 2 ∧ at' l 2 / 64 = 2 ∧ at' l 3 / 64 = 2 ∧ 65536 ≤ v4 l ∧ v4 l ≤ 1114111 then some (v4 l, 4) else none)
  else none

/-- the four ways in which a sequence stands at the head -/
theorem seq_some {l : List UInt8} {r n : Nat} (h : seq l = some (r, n)) :
    (n = 1 ∧ at' l 0 < 128 ∧ r = at' l 0) ∨
    (n = 2 ∧ at' l 0 / 32 = 6 ∧ at' l 1 / 64 = 2 ∧ r = v2 l ∧ 128 ≤ r) ∨
    (n = 3 ∧ at' l 0 / 16 = 14 ∧ at' l 1 / 64 = 2 ∧ at' l 2 / 64 = 2 ∧ r = v3 l ∧ 2048 ≤ r ∧ ¬ (55296 ≤ r ∧ r ≤ 57343)) ∨
    (n = 4 ∧ at' l 0 / 8 = 30 ∧ at' l 1 / 64 = 2 ∧ at' l 2 / 64 = 2 ∧ at' l 3 / 64 = 2 ∧ r = v4 l ∧ 65536 ≤ r ∧ r ≤ 1114111) := by
  unfold seq at h
  split at h
  · simp at h; omega
  split at h
  · split at h
    · simp at h; omega
    · cases h
  split at h
  · split at h
    · simp at h; omega
    · cases h
  split at h
  · split at h
    · simp at h; omega
    · cases h
  · cases h

theorem seq_width {l : List UInt8} {r n : Nat} (hl : l ≠ []) (h : seq l = some (r, n)) : 1 ≤ n ∧ n ≤ 4 ∧ n ≤ l.length := by
  have h0 : 0 < l.length := List.length_pos_iff.2 hl
  have hk : ∀ k, at' l k / 64 = 2 → k < l.length := by
    intro k h2
    rcases Nat.lt_or_ge k l.length with h' | h'
    · exact h'
    · rw [at_out l k h'] at h2; omega
  rcases seq_some h with h | h | h | h
  · omega
  · have := hk 1 h.2.2.1; omega
  · have := hk 2 h.2.2.2.1; omega
  · have := hk 3 h.2.2.2.2.1; omega

theorem seq_rune {l : List UInt8} {r n : Nat} (h : seq l = some (r, n)) : r ≤ 1114111 := by
  have h0 := at_lt l 0
  rcases seq_some h with h | h | h | h
  · omega
  · have := h.2.2.2.1; unfold v2 at this; omega
  · have := h.2.2.2.2.1; unfold v3 at this; omega
  · omega

/-- what stands behind a whole sequence counts for nothing -/
theorem seq_append {l : List UInt8} (m : List UInt8) {r n : Nat} (hl : l ≠ []) (h : seq l = some (r, n)) : seq (l ++ m) = some (r, n) := by
  have hw := seq_width hl h
  have ha : ∀ k, k < n → at' (l ++ m) k = at' l k := fun k hk => at_append l m k (by omega)
  have h0 := ha 0 (by omega)
  rcases seq_some h with ⟨rfl, h1, h2⟩ | ⟨rfl, h1, h2, h3, h4⟩ | ⟨rfl, h1, h2, h3, h4, h5, h6⟩ | ⟨rfl, h1, h2, h3, h4, h5, h6, h7⟩
  · unfold seq; rw [h0, if_pos h1, h2]
  · have e1 := ha 1 (by omega)
    have ev : v2 (l ++ m) = v2 l := by unfold v2; rw [h0, e1]
    unfold seq; rw [h0, e1, ev, if_neg (by omega), if_pos h1, if_pos ⟨h2, by omega⟩, h3]
  · have e1 := ha 1 (by omega)
    have e2 := ha 2 (by omega)
    have ev : v3 (l ++ m) = v3 l := by unfold v3; rw [h0, e1, e2]
    unfold seq; rw [h0, e1, e2, ev, if_neg (by omega), if_neg (by omega), if_pos h1, if_pos ⟨h2, h3, by omega, by omega⟩, h4]
  · have e1 := ha 1 (by omega)
    have e2 := ha 2 (by omega)
    have e3 := ha 3 (by omega)
    have ev : v4 (l ++ m) = v4 l := by unfold v4; rw [h0, e1, e2, e3]
    unfold seq; rw [h0, e1, e2, e3, ev, if_neg (by omega), if_neg (by omega), if_neg (by omega), if_pos h1, if_pos ⟨h2, h3, h4, by omega, by omega⟩, h5]

/-- a sequence hangs on its own bytes alone -/
theorem seq_take {l : List UInt8} {r n : Nat} (hl : l ≠ []) (h : seq l = some (r, n)) : seq (l.take n) = some (r, n) := by
  have hw := seq_width hl h
  have ha : ∀ k, k < n → at' (l.take n) k = at' l k := fun k hk => at_take l n k hk
  have h0 := ha 0 (by omega)
  rcases seq_some h with ⟨rfl, h1, h2⟩ | ⟨rfl, h1, h2, h3, h4⟩ | ⟨rfl, h1, h2, h3, h4, h5, h6⟩ | ⟨rfl, h1, h2, h3, h4, h5, h6, h7⟩
  · unfold seq; rw [h0, if_pos h1, h2]
  · have e1 := ha 1 (by omega)
    have ev : v2 (l.take 2) = v2 l := by unfold v2; rw [h0, e1]
    unfold seq; rw [h0, e1, ev, if_neg (by omega), if_pos h1, if_pos ⟨h2, by omega⟩, h3]
  · have e1 := ha 1 (by omega)
    have e2 := ha 2 (by omega)
    have ev : v3 (l.take 3) = v3 l := by unfold v3; rw [h0, e1, e2]
    unfold seq; rw [h0, e1, e2, ev, if_neg (by omega), if_neg (by omega), if_pos h1, if_pos ⟨h2, h3, by omega, by omega⟩, h4]
  · have e1 := ha 1 (by omega)
    have e2 := ha 2 (by omega)
    have e3 := ha 3 (by omega)
    have ev : v4 (l.take 4) = v4 l := by unfold v4; rw [h0, e1, e2, e3]
    unfold seq; rw [h0, e1, e2, e3, ev, if_neg (by omega), if_neg (by omega), if_neg (by omega), if_pos h1, if_pos ⟨h2, h3, h4, by omega, by omega⟩, h5]

/-- the byte of a string at a place -/
theorem get_at (s : ByteArray) (i : Nat) : (s.get! i).toNat = at' s.data.toList i := by
  obtain ⟨⟨l⟩⟩ := s
  rcases Nat.lt_or_ge i l.length with h | h
  · rw [at_in _ _ h]
    simp [ByteArray.get!, h]
  · rw [at_out _ _ h]
    simp [ByteArray.get!, h]
    rfl

theorem cont_iff (s : ByteArray) (i k : Nat) : (decide (i + k < s.size) && at' (s.data.toList.drop i) k / 64 == 2) = decide (at' (s.data.toList.drop i) k / 64 = 2) := by
  rw [Bool.eq_iff_iff]
  simp only [Bool.and_eq_true, decide_eq_true_eq, beq_iff_eq]
  constructor
  · exact fun h => h.2
  · intro h
    refine ⟨?_, h⟩
    rcases Nat.lt_or_ge (i + k) s.size with h' | h'
    · exact h'
    · rw [at_drop, at_out _ _ (by rw [← Lib.size_eq]; exact h')] at h; omega

/-- THE MODEL's DECODING, told by the list behind the place. -/
theorem decode_seq (s : ByteArray) (i : Nat) : Utf8.decode s i = (seq (s.data.toList.drop i)).getD (65533, 1) := by
  have c1 := cont_iff s i 1
  have c2 := cont_iff s i 2
  have c3 := cont_iff s i 3
  have a0 : (s.get! (i + 0)).toNat = at' (s.data.toList.drop i) 0 := by rw [get_at, at_drop]
  have a1 : (s.get! (i + 1)).toNat = at' (s.data.toList.drop i) 1 := by rw [get_at, at_drop]
  have a2 : (s.get! (i + 2)).toNat = at' (s.data.toList.drop i) 2 := by rw [get_at, at_drop]
  have a3 : (s.get! (i + 3)).toNat = at' (s.data.toList.drop i) 3 := by rw [get_at, at_drop]
  unfold Utf8.decode
  simp only [a0, a1, a2, a3]
  simp only [c1, c2, c3]
  clear c1 c2 c3 a0 a1 a2 a3
  generalize s.data.toList.drop i = l
  have b0 := at_lt l 0
  unfold seq v2 v3 v4 Utf8.valid Utf8.runeError
  by_cases h1 : at' l 0 < 128
  · simp [h1]
  rw [if_neg h1, if_neg h1]
  by_cases h2 : at' l 0 / 32 = 6
  · rw [if_pos h2]
    by_cases hc : at' l 1 / 64 = 2
    · rw [if_pos (by simp [h2, hc])]
      by_cases hv : 128 ≤ at' l 0 % 32 * 64 + at' l 1 % 64
      · rw [if_pos hv, if_pos ⟨hc, hv⟩]; rfl
      · rw [if_neg hv, if_neg (fun h => hv h.2)]; rfl
    · rw [if_neg (by simp [hc]), if_neg (by simp [hc]), if_neg (by simp [hc]), if_neg (fun h => hc h.1)]; rfl
  rw [if_neg (by simp [h2]), if_neg h2]
  by_cases h3 : at' l 0 / 16 = 14
  · rw [if_pos h3]
    have h4 : ¬ at' l 0 / 8 = 30 := by omega
    by_cases hc : at' l 1 / 64 = 2 ∧ at' l 2 / 64 = 2
    · obtain ⟨hc1, hc2⟩ := hc
      rw [if_pos (by simp [h3, hc1, hc2])]
      by_cases hv : 2048 ≤ (at' l 0 % 16 * 64 + at' l 1 % 64) * 64 + at' l 2 % 64 ∧ ¬ (55296 ≤ (at' l 0 % 16 * 64 + at' l 1 % 64) * 64 + at' l 2 % 64 ∧ (at' l 0 % 16 * 64 + at' l 1 % 64) * 64 + at' l 2 % 64 ≤ 57343)
      · rw [if_pos (by simp; omega), if_pos ⟨hc1, hc2, hv⟩]
        simp; omega
      · rw [if_neg (by simp; omega), if_neg (fun h => hv h.2.2)]
        rfl
    · rw [if_neg (by simp; omega), if_neg (by simp; omega), if_neg (fun h => hc ⟨h.1, h.2.1⟩)]; rfl
  rw [if_neg (by simp [h3]), if_neg h3]
  by_cases h4 : at' l 0 / 8 = 30
  · rw [if_pos h4]
    by_cases hc : at' l 1 / 64 = 2 ∧ at' l 2 / 64 = 2 ∧ at' l 3 / 64 = 2
    · obtain ⟨hc1, hc2, hc3⟩ := hc
      rw [if_pos (by simp [h4, hc1, hc2, hc3])]
      by_cases hv : 65536 ≤ ((at' l 0 % 8 * 64 + at' l 1 % 64) * 64 + at' l 2 % 64) * 64 + at' l 3 % 64 ∧ ((at' l 0 % 8 * 64 + at' l 1 % 64) * 64 + at' l 2 % 64) * 64 + at' l 3 % 64 ≤ 1114111
      · rw [if_pos (by simp; omega), if_pos ⟨hc1, hc2, hc3, hv⟩]
        simp; omega
      · rw [if_neg (by simp; omega), if_neg (fun h => hv h.2.2.2)]
        rfl
    · rw [if_neg (by simp; omega), if_neg (fun h => hc ⟨h.1, h.2.1, h.2.2.1⟩)]; rfl
  · rw [if_neg (by simp [h4]), if_neg h4]; rfl

/-- U+FFFD as it is written -/
def mark : List UInt8 := [239, 191, 189]

theorem three {l : List UInt8} (h : 3 ≤ l.length) : ∃ a b c m, l = a :: b :: c :: m := by
  match l, h with
  | a :: b :: c :: m, _ => exact ⟨a, b, c, m, rfl⟩

theorem byte_eq {a : UInt8} {n : Nat} (hn : n < 256) (h : a.toNat = n) : a = UInt8.ofNat n := by
  apply UInt8.toNat_inj.1
  rw [h]
  simp [Nat.mod_eq_of_lt hn]

/-- a written U+FFFD is told from what stands for broken bytes -/
theorem mark_of_seq {l : List UInt8} {n : Nat} (hl : l ≠ []) (h : seq l = some (65533, n)) : mark.isPrefixOf l = true ∧ n = 3 := by
  have hw := seq_width hl h
  have b0 := at_lt l 0
  have b1 := at_lt l 1
  have b2 := at_lt l 2
  rcases seq_some h with ⟨rfl, h1, h2⟩ | ⟨rfl, h1, h2, h3, h4⟩ | ⟨rfl, h1, h2, h3, h4, h5, h6⟩ | ⟨rfl, h1, h2, h3, h4, h5, h6, h7⟩
  · omega
  · unfold v2 at h3; omega
  · obtain ⟨a, b, c, m, rfl⟩ := three (by omega : 3 ≤ l.length)
    simp only [at', v3, List.getElem?_cons_zero, List.getElem?_cons_succ, Option.getD_some] at *
    have ea : a = 239 := byte_eq (n := 239) (by decide) (by omega)
    have eb : b = 191 := byte_eq (n := 191) (by decide) (by omega)
    have ec : c = 189 := byte_eq (n := 189) (by decide) (by omega)
    subst ea eb ec
    exact ⟨by simp [mark], trivial⟩
  · omega

theorem seq_of_mark {l : List UInt8} (h : mark.isPrefixOf l = true) : seq l = some (65533, 3) := by
  obtain ⟨m, rfl⟩ := List.isPrefixOf_iff_prefix.1 h
  exact seq_append m (by simp [mark]) (by decide)

theorem not_mark {l : List UInt8} (h : seq l = none) : mark.isPrefixOf l = false := by
  cases e : mark.isPrefixOf l with
  | false => rfl
  | true => rw [seq_of_mark e] at h; cases h

end Go.Proofs.Ytnkkiepoljbhlaa.Txt
