/-
  Plain mathematics of frames: the check, four bytes of a number, frames and what is opened.
-/
namespace Go.Proofs.Ytplcpjngpkghmaa.Crc

/-- one bit of the check -/
def bit (c : Nat) : Nat := if c % 2 = 1 then (c / 2) ^^^ 3988292384 else c / 2
def bits : Nat → Nat → Nat
  | 0, c => c
  | k + 1, c => bit (bits k c)
/-- one byte -/
def byte (c x : Nat) : Nat := bits 8 (c ^^^ x)
def next (c : Nat) (x : UInt8) : Nat := byte c x.toNat
def on (c : Nat) (l : List UInt8) : Nat := l.foldl next c
theorem on_nil (c : Nat) : on c [] = c := List.foldl_nil
theorem on_cons (c : Nat) (x : UInt8) (l : List UInt8) : on c (x :: l) = on (next c x) l := List.foldl_cons ..
theorem on_append (c : Nat) (a b : List UInt8) : on c (a ++ b) = on (on c a) b := List.foldl_append
theorem on_snoc (c : Nat) (a : List UInt8) (x : UInt8) : on c (a ++ [x]) = byte (on c a) x.toNat := by rw [on_append, on_cons, on_nil, next]
def crc (l : List UInt8) : Nat := on 4294967295 l ^^^ 4294967295

theorem xor_lt {a b : Nat} (ha : a < 4294967296) (hb : b < 4294967296) : a ^^^ b < 4294967296 := Nat.xor_lt_two_pow (n := 32) ha hb
theorem bit_lt {c : Nat} (h : c < 4294967296) : bit c < 4294967296 := by
  unfold bit
  split
  · exact xor_lt (by omega) (by omega)
  · omega
theorem bits_lt {c : Nat} (h : c < 4294967296) : ∀ k, bits k c < 4294967296
  | 0 => h
  | k + 1 => bit_lt (bits_lt h k)
theorem byte_lt {c : Nat} (x : UInt8) (h : c < 4294967296) : byte c x.toNat < 4294967296 :=
  bits_lt (xor_lt h (by have := x.toNat_lt; omega)) 8
theorem on_lt (l : List UInt8) : ∀ {c : Nat}, c < 4294967296 → on c l < 4294967296 := by
  induction l with
  | nil => intro c h; rw [on_nil]; exact h
  | cons x l ih => intro c h; rw [on_cons]; exact ih (byte_lt x h)
theorem crc_lt (l : List UInt8) : crc l < 4294967296 := by
  unfold crc
  have := on_lt l (c := 4294967295) (by omega)
  generalize on 4294967295 l = k at *
  exact xor_lt this (by omega)
theorem xor_cancel {a b p : Nat} (h : a ^^^ p = b ^^^ p) : a = b := by
  have := congrArg (· ^^^ p) h
  simpa [Nat.xor_assoc] using this
theorem xor_cancel' {a b p : Nat} (h : p ^^^ a = p ^^^ b) : a = b := xor_cancel (p := p) (by rw [Nat.xor_comm a, Nat.xor_comm b]; exact h)

theorem top_no {c : Nat} (h : c < 2147483648) : c.testBit 31 = false := Nat.testBit_lt_two_pow (by omega)
theorem top_yes {c : Nat} (h : c < 2147483648) : (c ^^^ 3988292384).testBit 31 = true := by
  rw [Nat.testBit_xor, top_no h]; decide

theorem bit_inj {c d : Nat} (hc : c < 4294967296) (hd : d < 4294967296) (h : bit c = bit d) : c = d := by
  unfold bit at h
  by_cases h1 : c % 2 = 1 <;> by_cases h2 : d % 2 = 1
  · rw [if_pos h1, if_pos h2] at h
    have := xor_cancel h
    omega
  · rw [if_pos h1, if_neg h2] at h
    have a := top_yes (c := c / 2) (by omega)
    have b := top_no (c := d / 2) (by omega)
    rw [h, b] at a
    cases a
  · rw [if_neg h1, if_pos h2] at h
    have a := top_yes (c := d / 2) (by omega)
    have b := top_no (c := c / 2) (by omega)
    rw [← h, b] at a
    cases a
  · rw [if_neg h1, if_neg h2] at h
    omega
theorem bits_inj {c d : Nat} (hc : c < 4294967296) (hd : d < 4294967296) : ∀ k, bits k c = bits k d → c = d
  | 0, h => h
  | k + 1, h => bits_inj hc hd k (bit_inj (bits_lt hc k) (bits_lt hd k) h)
theorem byte_inj {c d : Nat} (x : UInt8) (hc : c < 4294967296) (hd : d < 4294967296) (h : byte c x.toNat = byte d x.toNat) : c = d := by
  have := x.toNat_lt
  exact xor_cancel (bits_inj (xor_lt hc (by omega)) (xor_lt hd (by omega)) 8 h)
theorem byte_other {c : Nat} (x y : UInt8) (hc : c < 4294967296) (h : byte c x.toNat = byte c y.toNat) : x = y := by
  have := x.toNat_lt
  have := y.toNat_lt
  exact UInt8.toNat_inj.1 (xor_cancel' (bits_inj (xor_lt hc (by omega)) (xor_lt hc (by omega)) 8 h))
theorem on_inj (l : List UInt8) : ∀ {c d : Nat}, c < 4294967296 → d < 4294967296 → on c l = on d l → c = d := by
  induction l with
  | nil => intro c d _ _ h; rwa [on_nil, on_nil] at h
  | cons x l ih =>
    intro c d hc hd h
    rw [on_cons, on_cons] at h
    exact byte_inj x hc hd (ih (byte_lt x hc) (byte_lt x hd) h)
/-- one byte turned is met -/
theorem crc_turn {a b : List UInt8} {x y : UInt8} (h : crc (a ++ x :: b) = crc (a ++ y :: b)) : x = y := by
  unfold crc at h
  have h := xor_cancel h
  rw [on_append, on_append, on_cons, on_cons] at h
  have hl := on_lt a (c := 4294967295) (by omega)
  exact byte_other x y hl (on_inj b (byte_lt x hl) (byte_lt y hl) h)

/-- four bytes, the lowest first -/
def fourB (n : Nat) : List UInt8 := [UInt8.ofNat n, UInt8.ofNat (n / 256), UInt8.ofNat (n / 65536), UInt8.ofNat (n / 16777216)]
def fourN : List UInt8 → Nat
  | a :: b :: c :: d :: _ => a.toNat + b.toNat * 256 + c.toNat * 65536 + d.toNat * 16777216
  | _ => 0
theorem fourB_length (n : Nat) : (fourB n).length = 4 := rfl
theorem fourN_fourB {n : Nat} (h : n < 4294967296) (l : List UInt8) : fourN (fourB n ++ l) = n := by
  simp only [fourB, fourN, List.cons_append, List.nil_append, UInt8.toNat_ofNat']
  omega
theorem fourB_fourN (a b c d : UInt8) (l : List UInt8) : fourB (fourN (a :: b :: c :: d :: l)) = [a, b, c, d] := by
  have := a.toNat_lt
  have := b.toNat_lt
  have := c.toNat_lt
  have := d.toNat_lt
  simp only [fourB, fourN, List.cons.injEq, and_true, ← UInt8.toNat_inj, UInt8.toNat_ofNat']
  omega
theorem fourN_lt (l : List UInt8) : fourN l < 4294967296 := by
  match l with
  | [] => exact (by decide : (0 : Nat) < 4294967296)
  | [_] => exact (by decide : (0 : Nat) < 4294967296)
  | [_, _] => exact (by decide : (0 : Nat) < 4294967296)
  | [_, _, _] => exact (by decide : (0 : Nat) < 4294967296)
  | a :: b :: c :: d :: _ =>
    have := a.toNat_lt
    have := b.toNat_lt
    have := c.toNat_lt
    have := d.toNat_lt
    simp only [fourN]
    omega

def frame (l : List UInt8) : List UInt8 := fourB l.length ++ fourB (crc (fourB l.length ++ l)) ++ l
theorem frame_length (l : List UInt8) : (frame l).length = l.length + 8 := by
  simp only [frame, List.length_append, fourB_length]; omega

/-- what is in the frame ahead, and what stands behind it -/
def opened (l : List UInt8) : Option (List UInt8 × List UInt8) :=
  if l.length < 8 then none
  else if 4096 < fourN l ∨ l.length - 8 < fourN l then none
  else if fourN (l.drop 4) = crc (l.take 4 ++ (l.drop 8).take (fourN l)) then some ((l.drop 8).take (fourN l), (l.drop 8).drop (fourN l))
  else none

theorem opened_frame (l r : List UInt8) (h : l.length ≤ 4096) : opened (frame l ++ r) = some (l, r) := by
  have hc := crc_lt (fourB l.length ++ l)
  have e1 : fourN (frame l ++ r) = l.length := by
    unfold frame; rw [List.append_assoc, List.append_assoc]; exact fourN_fourB (by omega) _
  have e2 : (frame l ++ r).drop 4 = fourB (crc (fourB l.length ++ l)) ++ (l ++ r) := by
    unfold frame; rw [List.append_assoc, List.append_assoc]; rfl
  have e3 : (frame l ++ r).drop 8 = l ++ r := by
    unfold frame; rw [List.append_assoc, List.append_assoc]; rfl
  have e4 : (frame l ++ r).take 4 = fourB l.length := by
    unfold frame; rw [List.append_assoc, List.append_assoc]; rfl
  unfold opened
  rw [e1, e2, e3, e4, if_neg (by rw [List.length_append, frame_length]; omega), if_neg (by rw [List.length_append, frame_length]; omega), fourN_fourB hc]
  rw [List.take_left, List.drop_left, if_pos rfl]

theorem eight : ∀ (l : List UInt8), ¬ l.length < 8 → ∃ a b c d e f g i r, l = a :: b :: c :: d :: e :: f :: g :: i :: r
  | a :: b :: c :: d :: e :: f :: g :: i :: l, _ => ⟨a, b, c, d, e, f, g, i, l, rfl⟩
  | [], h => (h (Nat.lt_of_sub_eq_succ rfl)).elim
  | [_], h => (h (Nat.lt_of_sub_eq_succ rfl)).elim
  | [_, _], h => (h (Nat.lt_of_sub_eq_succ rfl)).elim
  | [_, _, _], h => (h (Nat.lt_of_sub_eq_succ rfl)).elim
  | [_, _, _, _], h => (h (Nat.lt_of_sub_eq_succ rfl)).elim
  | [_, _, _, _, _], h => (h (Nat.lt_of_sub_eq_succ rfl)).elim
  | [_, _, _, _, _, _], h => (h (Nat.lt_of_sub_eq_succ rfl)).elim
  | [_, _, _, _, _, _, _], h => (h (Nat.lt_of_sub_eq_succ rfl)).elim

theorem same_at (a b c d e f g i : UInt8) (l : List UInt8) (n m : Nat) (hm : fourN (e :: f :: g :: i :: l) = m) (hn : fourN (a :: b :: c :: d :: e :: f :: g :: i :: l) = n) (hl : n ≤ l.length) :
    (frame (l.take n) = a :: b :: c :: d :: e :: f :: g :: i :: l.take n) ↔ m = crc (a :: b :: c :: d :: l.take n) := by
  have hB := fourB_fourN a b c d (e :: f :: g :: i :: l)
  have hC := fourB_fourN e f g i l
  rw [hn] at hB
  rw [hm] at hC
  have hl : (l.take n).length = n := by rw [List.length_take]; omega
  unfold frame
  rw [hl, hB]
  have hXl := crc_lt (a :: b :: c :: d :: l.take n)
  simp only [List.cons_append, List.nil_append]
  generalize crc (a :: b :: c :: d :: l.take n) = X at *
  constructor
  · intro h
    have h2 : fourB X = [e, f, g, i] := by
      simp only [List.cons.injEq, true_and, fourB, List.cons_append, and_true] at h ⊢
      exact ⟨h.1, h.2.1, h.2.2.1, h.2.2.2.1⟩
    have := fourN_fourB hXl l
    rw [h2] at this
    simp only [List.cons_append, List.nil_append] at this
    exact hm.symm.trans this
  · intro h
    subst h
    rw [hC]
    simp only [List.cons_append, List.nil_append]

/-- the reference's way: the frame of what is inside stands ahead -/
theorem opened_same (l : List UInt8) (h8 : ¬ l.length < 8) (h : ¬ (4096 < fourN l ∨ l.length - 8 < fourN l)) :
    (frame ((l.drop 8).take (fourN l)) = l.take (8 + fourN l)) ↔ fourN (l.drop 4) = crc (l.take 4 ++ (l.drop 8).take (fourN l)) := by
  obtain ⟨a, b, c, d, e, f, g, i, r, rfl⟩ := eight l h8
  obtain ⟨n, hn⟩ : ∃ n, fourN (a :: b :: c :: d :: e :: f :: g :: i :: r) = n := ⟨_, rfl⟩
  have e4 : (a :: b :: c :: d :: e :: f :: g :: i :: r).drop 4 = e :: f :: g :: i :: r := rfl
  obtain ⟨m, hm⟩ : ∃ m, fourN (e :: f :: g :: i :: r) = m := ⟨_, rfl⟩
  have e8 : (a :: b :: c :: d :: e :: f :: g :: i :: r).drop 8 = r := rfl
  have t4 : (a :: b :: c :: d :: e :: f :: g :: i :: r).take 4 = [a, b, c, d] := rfl
  have t8 : (a :: b :: c :: d :: e :: f :: g :: i :: r).take (n + 8) = a :: b :: c :: d :: e :: f :: g :: i :: r.take n := rfl
  rw [hn] at h ⊢
  rw [e4, hm, e8, t4, Nat.add_comm 8 n, t8]
  refine same_at a b c d e f g i r n m hm hn ?_
  simp only [List.length_cons] at h
  omega

end Go.Proofs.Ytplcpjngpkghmaa.Crc
