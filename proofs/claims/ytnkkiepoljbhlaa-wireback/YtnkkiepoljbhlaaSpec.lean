/-
  Plain mathematics: what the layer's calls answer, as functions on lists of bytes (no program, no memory).
-/
import Derived.Test.YtnkkiepoljbhlaaText
namespace Go.Proofs.Ytnkkiepoljbhlaa.Txt

/-- the runes of a text, or the place and the error of its first fault; p: where the list stands, c: the runes ahead of it -/
def chk : Nat → List UInt8 → Nat → Nat → Nat × Nat × Nat
  | 0, _, _, c => (c, 0, 0)
  | f + 1, l, p, c =>
    if l.length = 0 then (c, 0, 0)
    else match seq l with
      | none => (0, p, 12)
      | some (r, n) => if r < 32 ∨ r = 127 then (0, p, 4) else chk f (l.drop n) (p + n) (c + 1)

def check (s : ByteArray) : Nat × Nat × Nat := chk s.size s.data.toList 0 0

theorem chk_end (f : Nat) (l : List UInt8) (p c : Nat) (h : l.length = 0) : chk f l p c = (c, 0, 0) := by
  cases f <;> simp [chk, h]
theorem chk_bad (f : Nat) (l : List UInt8) (p c : Nat) (h : l.length ≠ 0) (hs : seq l = none) : chk (f + 1) l p c = (0, p, 12) := by
  simp [chk, h, hs]
theorem chk_form (f : Nat) (l : List UInt8) (p c r n : Nat) (h : l.length ≠ 0) (hs : seq l = some (r, n)) (hr : r < 32 ∨ r = 127) : chk (f + 1) l p c = (0, p, 4) := by
  simp [chk, h, hs, hr]
theorem chk_on (f : Nat) (l : List UInt8) (p c r n : Nat) (h : l.length ≠ 0) (hs : seq l = some (r, n)) (hr : ¬ (r < 32 ∨ r = 127)) : chk (f + 1) l p c = chk f (l.drop n) (p + n) (c + 1) := by
  simp [chk, h, hs, hr]

/-! ### How the reference reads a sequence: byte by byte -/

/-- the rune as it is reckoned behind k further bytes -/
def acc (l : List UInt8) (r0 : Nat) : Nat → Nat
  | 0 => r0
  | k + 1 => acc l r0 k * 64 + at' l (k + 1) % 64

theorem acc_bound (l : List UInt8) (r0 : Nat) (h : r0 < 32) : acc l r0 0 < 32 ∧ acc l r0 1 < 2048 ∧ acc l r0 2 < 131072 ∧ acc l r0 3 < 8388608 := by
  simp only [acc]
  omega

theorem sacc_lt (l : List UInt8) (r0 k : Nat) (h : r0 < 32) (hk : k ≤ 3) : acc l r0 k < 8388608 := by
  have hb := acc_bound l r0 h
  match k, hk with
  | 0, _ => omega
  | 1, _ => omega
  | 2, _ => omega
  | 3, _ => omega

/-- a first byte says how many bytes there are, which bits of its own count, and what the least rune is -/
def lead (l : List UInt8) (n r0 least : Nat) : Prop :=
  (n = 2 ∧ at' l 0 / 32 = 6 ∧ r0 = at' l 0 % 32 ∧ least = 128) ∨ (n = 3 ∧ at' l 0 / 16 = 14 ∧ r0 = at' l 0 % 16 ∧ least = 2048) ∨ (n = 4 ∧ at' l 0 / 8 = 30 ∧ r0 = at' l 0 % 8 ∧ least = 65536)

theorem seq_cut {l : List UInt8} {n r0 least k : Nat} (h : lead l n r0 least) (h1 : 1 ≤ k) (hk : k < n) (hc : at' l k / 64 ≠ 2) : seq l = none := by
  have b0 := at_lt l 0
  unfold seq
  rcases h with ⟨rfl, h, _⟩ | ⟨rfl, h, _⟩ | ⟨rfl, h, _⟩
  · obtain rfl : k = 1 := by omega
    rw [if_neg (by omega), if_pos h, if_neg (fun e => hc e.1)]
  · rw [if_neg (by omega), if_neg (by omega), if_pos h, if_neg]
    rintro ⟨e1, e2, _⟩
    rcases (by omega : k = 1 ∨ k = 2) with rfl | rfl
    · exact hc e1
    · exact hc e2
  · rw [if_neg (by omega), if_neg (by omega), if_neg (by omega), if_pos h, if_neg]
    rintro ⟨e1, e2, e3, _⟩
    rcases (by omega : k = 1 ∨ k = 2 ∨ k = 3) with rfl | rfl | rfl
    · exact hc e1
    · exact hc e2
    · exact hc e3

theorem seq_short {l : List UInt8} {n r0 least : Nat} (h : lead l n r0 least) (hl : l.length < n) (h0 : 0 < l.length) : seq l = none :=
  seq_cut h (k := l.length) h0 hl (by rw [at_out l _ (Nat.le_refl _)]; decide)

theorem seq_full {l : List UInt8} {n r0 least : Nat} (h : lead l n r0 least) (hc : ∀ j, 1 ≤ j → j < n → at' l j / 64 = 2) :
    seq l = if acc l r0 (n - 1) < least ∨ 1114111 < acc l r0 (n - 1) ∨ (55296 ≤ acc l r0 (n - 1) ∧ acc l r0 (n - 1) ≤ 57343) then none else some (acc l r0 (n - 1), n) := by
  have b0 := at_lt l 0
  have hb := acc_bound l r0
  unfold seq
  rcases h with ⟨rfl, h, h2, h3⟩ | ⟨rfl, h, h2, h3⟩ | ⟨rfl, h, h2, h3⟩
  · have c1 := hc 1 (by omega) (by omega)
    have e : v2 l = acc l r0 1 := by simp [acc, v2, h2]
    rw [show 2 - 1 = 1 from rfl]
    have hb' := hb (by omega)
    rw [if_neg (by omega), if_pos h, e]
    by_cases hv : 128 ≤ acc l r0 1
    · rw [if_pos ⟨c1, hv⟩, if_neg (by omega)]
    · rw [if_neg (fun x => hv x.2), if_pos (by omega)]
  · have c1 := hc 1 (by omega) (by omega)
    have c2 := hc 2 (by omega) (by omega)
    have e : v3 l = acc l r0 2 := by simp [acc, v3, h2]
    rw [show 3 - 1 = 2 from rfl]
    have hb' := hb (by omega)
    rw [if_neg (by omega), if_neg (by omega), if_pos h, e]
    have hlim : acc l r0 2 ≤ 65535 := by simp only [acc]; omega
    by_cases hv : 2048 ≤ acc l r0 2 ∧ ¬ (55296 ≤ acc l r0 2 ∧ acc l r0 2 ≤ 57343)
    · rw [if_pos ⟨c1, c2, hv⟩, if_neg (by omega)]
    · rw [if_neg (fun x => hv x.2.2), if_pos (by omega)]
  · have c1 := hc 1 (by omega) (by omega)
    have c2 := hc 2 (by omega) (by omega)
    have c3 := hc 3 (by omega) (by omega)
    have e : v4 l = acc l r0 3 := by simp [acc, v4, h2]
    rw [show 4 - 1 = 3 from rfl]
    rw [if_neg (by omega), if_neg (by omega), if_neg (by omega), if_pos h, e]
    by_cases hv : 65536 ≤ acc l r0 3 ∧ acc l r0 3 ≤ 1114111
    · rw [if_pos ⟨c1, c2, c3, hv⟩, if_neg (by omega)]
    · rw [if_neg (fun x => hv x.2.2.2), if_pos (by omega)]

theorem seq_ascii {l : List UInt8} (h : at' l 0 < 128) : seq l = some (at' l 0, 1) := by
  unfold seq; rw [if_pos h]
theorem seq_odd {l : List UInt8} (h1 : ¬ at' l 0 < 128) (h2 : ¬ at' l 0 / 32 = 6) (h3 : ¬ at' l 0 / 16 = 14) (h4 : ¬ at' l 0 / 8 = 30) : seq l = none := by
  unfold seq; rw [if_neg h1, if_neg h2, if_neg h3, if_neg h4]

theorem at_get (s : ByteArray) (i k : Nat) (h : i + k < s.size) : at' (s.data.toList.drop i) k = (s[i + k]'h).toNat := by
  rw [at_drop, at_in _ _ (by rw [← Lib.size_eq]; exact h)]
  rfl

end Go.Proofs.Ytnkkiepoljbhlaa.Txt
