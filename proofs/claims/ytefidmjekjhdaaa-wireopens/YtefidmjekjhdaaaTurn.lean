/-
  Plain mathematics: a frame of which one byte is turned.
-/
import Derived.Test.YtefidmjekjhdaaaCrc
namespace Go.Proofs.Ytefidmjekjhdaaa.Crc

theorem frame_cons (l r : List UInt8) : frame l ++ r = UInt8.ofNat l.length :: UInt8.ofNat (l.length / 256) :: UInt8.ofNat (l.length / 65536) :: UInt8.ofNat (l.length / 16777216) :: UInt8.ofNat (crc (fourB l.length ++ l)) :: UInt8.ofNat (crc (fourB l.length ++ l) / 256) :: UInt8.ofNat (crc (fourB l.length ++ l) / 65536) :: UInt8.ofNat (crc (fourB l.length ++ l) / 16777216) :: (l ++ r) := by
  unfold frame
  generalize crc (fourB l.length ++ l) = X
  simp only [fourB, List.cons_append, List.nil_append]

/-- what is opened at eight bytes and what follows -/
theorem opened_cons (a b c d e f g i : UInt8) (l : List UInt8) (n m : Nat) (hn : fourN (a :: b :: c :: d :: e :: f :: g :: i :: l) = n) (hm : fourN (e :: f :: g :: i :: l) = m) :
    opened (a :: b :: c :: d :: e :: f :: g :: i :: l) = if 4096 < n ∨ l.length < n then none else if m = crc (a :: b :: c :: d :: l.take n) then some (l.take n, l.drop n) else none := by
  unfold opened
  have e4 : (a :: b :: c :: d :: e :: f :: g :: i :: l).drop 4 = e :: f :: g :: i :: l := rfl
  have e8 : (a :: b :: c :: d :: e :: f :: g :: i :: l).drop 8 = l := rfl
  have t4 : (a :: b :: c :: d :: e :: f :: g :: i :: l).take 4 = [a, b, c, d] := rfl
  have hl : (a :: b :: c :: d :: e :: f :: g :: i :: l).length = l.length + 8 := by simp
  rw [hn, e4, hm, e8, t4, hl, if_neg (by omega), Nat.add_sub_cancel]
  rfl

theorem opened_len {l x y : List UInt8} (h : opened l = some (x, y)) : x.length = fourN l := by
  unfold opened at h
  by_cases h1 : l.length < 8
  · rw [if_pos h1] at h; cases h
  rw [if_neg h1] at h
  by_cases h2 : 4096 < fourN l ∨ l.length - 8 < fourN l
  · rw [if_pos h2] at h; cases h
  rw [if_neg h2] at h
  split at h
  · obtain ⟨rfl, rfl⟩ := Prod.mk.injEq .. ▸ Option.some.inj h
    rw [List.length_take, List.length_drop]
    omega
  · cases h

theorem four_inj {a b c d a' b' c' d' : UInt8} {l l' : List UInt8} (h : fourN (a :: b :: c :: d :: l) = fourN (a' :: b' :: c' :: d' :: l')) : a = a' ∧ b = b' ∧ c = c' ∧ d = d' := by
  have h1 := fourB_fourN a b c d l
  have h2 := fourB_fourN a' b' c' d' l'
  rw [h, h2] at h1
  simp only [List.cons.injEq, and_true] at h1
  exact ⟨h1.1.symm, h1.2.1.symm, h1.2.2.1.symm, h1.2.2.2.symm⟩

theorem four_of (n : Nat) (h : n < 4294967296) (l : List UInt8) : fourN (UInt8.ofNat n :: UInt8.ofNat (n / 256) :: UInt8.ofNat (n / 65536) :: UInt8.ofNat (n / 16777216) :: l) = n := fourN_fourB h l

/-- a byte of the number turned: what is opened, if it is, is of another length -/
theorem turned_low (l r : List UInt8) (hl : l.length ≤ 4096) (k : Nat) (hk : k < 4) (y : UInt8) (hy : (frame l ++ r)[k]? ≠ some y) {x z : List UInt8} (h : opened ((frame l ++ r).set k y) = some (x, z)) : x ≠ l := by
  intro hx
  have hlen := opened_len h
  rw [hx] at hlen
  rw [frame_cons] at hlen hy
  have hn : l.length < 4294967296 := by omega
  generalize hL : l.length = n at *
  generalize crc (fourB n ++ l) = X at *
  have h4 := four_of n hn (UInt8.ofNat X :: UInt8.ofNat (X / 256) :: UInt8.ofNat (X / 65536) :: UInt8.ofNat (X / 16777216) :: (l ++ r))
  generalize (UInt8.ofNat X :: UInt8.ofNat (X / 256) :: UInt8.ofNat (X / 65536) :: UInt8.ofNat (X / 16777216) :: (l ++ r)) = rest at *
  generalize UInt8.ofNat n = n0 at *
  generalize UInt8.ofNat (n / 256) = n1 at *
  generalize UInt8.ofNat (n / 65536) = n2 at *
  generalize UInt8.ofNat (n / 16777216) = n3 at *
  have hh := h4.trans hlen
  match k, hk, hy, hh with
  | 0, _, hy, hh => exact hy (by rw [(four_inj hh).1]; rfl)
  | 1, _, hy, hh => exact hy (by rw [(four_inj hh).2.1]; rfl)
  | 2, _, hy, hh => exact hy (by rw [(four_inj hh).2.2.1]; rfl)
  | 3, _, hy, hh => exact hy (by rw [(four_inj hh).2.2.2]; rfl)

theorem take_app (l r : List UInt8) : (l ++ r).take l.length = l := List.take_left
theorem set_split {l : List UInt8} {j : Nat} {x : UInt8} (h : l[j]? = some x) (y : UInt8) : l = l.take j ++ x :: l.drop (j + 1) ∧ l.set j y = l.take j ++ y :: l.drop (j + 1) := by
  obtain ⟨hj, rfl⟩ := List.getElem?_eq_some_iff.1 h
  refine ⟨?_, List.set_eq_take_append_cons_drop ▸ by rw [if_pos hj]⟩
  rw [← List.drop_eq_getElem_cons hj, List.take_append_drop]

/-- a byte of the check or of what is in the frame turned: nothing is opened -/
theorem turned_high (l r : List UInt8) (hl : l.length ≤ 4096) (k : Nat) (hk : 4 ≤ k) (hk2 : k < l.length + 8) (y : UInt8) (hy : (frame l ++ r)[k]? ≠ some y) : opened ((frame l ++ r).set k y) = none := by
  have hC := crc_lt (fourB l.length ++ l)
  have hn : l.length < 4294967296 := by omega
  have hcc : crc (UInt8.ofNat l.length :: UInt8.ofNat (l.length / 256) :: UInt8.ofNat (l.length / 65536) :: UInt8.ofNat (l.length / 16777216) :: l) = crc (fourB l.length ++ l) := rfl
  rw [frame_cons] at hy ⊢
  obtain ⟨j, rfl⟩ : ∃ j, k = j + 4 := ⟨k - 4, by omega⟩
  obtain ⟨X, hX⟩ : ∃ X, crc (fourB l.length ++ l) = X := ⟨_, rfl⟩
  rw [hX] at hC hcc hy ⊢
  have hT := take_app l r
  have hLr : l.length ≤ (l ++ r).length := by simp
  obtain ⟨n, hN⟩ : ∃ n, l.length = n := ⟨_, rfl⟩
  rw [hN] at hn hcc hy hT hLr hl hk2 ⊢
  have h4 := four_of n hn
  have h8 := four_of X hC
  have hcx : ∀ (e f g i : UInt8) (s : List UInt8), fourN (UInt8.ofNat n :: UInt8.ofNat (n / 256) :: UInt8.ofNat (n / 65536) :: UInt8.ofNat (n / 16777216) :: e :: f :: g :: i :: s) = n := fun e f g i s => h4 _
  generalize UInt8.ofNat n = n0 at *
  generalize UInt8.ofNat (n / 256) = n1 at *
  generalize UInt8.ofNat (n / 65536) = n2 at *
  generalize UInt8.ofNat (n / 16777216) = n3 at *
  generalize UInt8.ofNat X = c0 at *
  generalize UInt8.ofNat (X / 256) = c1 at *
  generalize UInt8.ofNat (X / 65536) = c2 at *
  generalize UInt8.ofNat (X / 16777216) = c3 at *
  have low : ∀ (e f g i : UInt8), (e = c0 ∧ f = c1 ∧ g = c2 ∧ i = c3 → False) → opened (n0 :: n1 :: n2 :: n3 :: e :: f :: g :: i :: (l ++ r)) = none := by
    intro e f g i hne
    rw [opened_cons n0 n1 n2 n3 e f g i (l ++ r) n _ (hcx e f g i _) rfl, if_neg (by omega), hT, hcc, if_neg]
    intro h
    exact hne (four_inj (h.trans (h8 (l ++ r)).symm))
  match j, hk, hk2, hy with
  | 0, _, _, hy => exact low y c1 c2 c3 fun h => hy (by rw [h.1]; rfl)
  | 1, _, _, hy => exact low c0 y c2 c3 fun h => hy (by rw [h.2.1]; rfl)
  | 2, _, _, hy => exact low c0 c1 y c3 fun h => hy (by rw [h.2.2.1]; rfl)
  | 3, _, _, hy => exact low c0 c1 c2 y fun h => hy (by rw [h.2.2.2]; rfl)
  | j + 4, _, hk2, hy =>
    have hj : j < l.length := by omega
    have hx : l[j]? = some l[j] := List.getElem?_eq_getElem hj
    obtain ⟨s1, s2⟩ := set_split hx y
    have hy' : l[j] ≠ y := by
      intro e
      apply hy
      show (l ++ r)[j]? = some y
      rw [List.getElem?_append_left hj, hx, e]
    have hset : (n0 :: n1 :: n2 :: n3 :: c0 :: c1 :: c2 :: c3 :: (l ++ r)).set (j + 4 + 4) y = n0 :: n1 :: n2 :: n3 :: c0 :: c1 :: c2 :: c3 :: (l.set j y ++ r) := by
      simp only [List.set_cons_succ]
      rw [List.set_append_left _ _ hj]
    have hl2 : (l.set j y).length = n := by rw [List.length_set]; exact hN
    have hT2 : (l.set j y ++ r).take n = l.set j y := by rw [← hl2]; exact List.take_left
    rw [hset, opened_cons n0 n1 n2 n3 c0 c1 c2 c3 (l.set j y ++ r) n X (hcx c0 c1 c2 c3 _) (h8 _), if_neg (by rw [List.length_append, hl2]; omega), hT2, if_neg]
    intro h
    rw [s2] at h
    rw [s1] at hcc
    exact hy' (crc_turn (a := n0 :: n1 :: n2 :: n3 :: l.take j) (b := l.drop (j + 1)) (hcc.trans h))

end Go.Proofs.Ytefidmjekjhdaaa.Crc
