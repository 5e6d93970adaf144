/-
  The reference's number and text.
-/
import Derived.Test.YtnkkiepoljbhlaaNum
namespace Go.Proofs.Ytnkkiepoljbhlaa
open Go.RowKit

theorem rem_high (m : Nat) : IntKind.u8.wrap ((m : Int) % 128 + 128) = ((UInt8.ofNat (m % 128 + 128)).toNat : Int) := by
  rw [IntKind.wrap_u8', UInt8.toNat_ofNat']
  omega
set_option maxHeartbeats 1000000 in
set_option maxRecDepth 100000 in
theorem refNumber_at (B n k : Nat) (q : Option Addr) (c : Nat) (l : List UInt8) (w : World) (hn : n < 9223372036854775808) (hk : Hid (l.length = k)) (hown : Hid (Own w B (.slice q k c) l)) (hB : Hid (B ≤ w.heap.size)) (hl : k ≤ 70368744177664) :
    Calls Try.prog 24 #[.slice q k c, .int .i64 n] w fun e w' => ∃ v', e = .returned v' ∧ Own w' B v' (l ++ num n) ∧ Below B w w' := by
  go_enter Try.func24, Try.ntmps24
  go_wp2_with fail
  go_loopw [0, 1] (fun b v wr => ∃ (m f j : Nat) (d : List UInt8) (q' : Option Addr) (c' : Nat), b = .slice q' j c' ∧ v = .int .i64 m ∧ m ≤ n ∧ m < 128 ^ (f + 1) ∧ d.length + f ≤ 9 ∧ j = k + d.length ∧ d ++ numF (f + 1) m = num n ∧ Own wr B (.slice q' j c') (l ++ d) ∧ Below B w wr) (fun _ v _ => (intOf v).toNat)
  case atStart => exact ⟨n, 9, k, [], q, c, rfl, rfl, Nat.le_refl _, Nat.lt_trans hn (by decide), by decide, rfl, rfl, by rw [List.append_nil]; exact hown.out, Below.refl _ _⟩
  case round =>
    obtain ⟨m, f, j, d, q', c', rfl, rfl, hmn, hmf, hdf, hj, hd, ho, hb⟩ := hrel
    have HO : Hid (Own wr B (.slice q' j c') (l ++ d)) := ho
    have HB : Hid (Below B w wr) := hb
    have HD : Hid (d ++ numF (f + 1) m = num n) := hd
    have HS : Hid (B ≤ wr.heap.size) := Nat.le_trans hB.out hb.size
    have HJ : Hid (j = k + d.length) := hj
    have HL : Hid ((l ++ d).length = j) := by unfold Hid; rw [List.length_append, hk.out, hj]
    have HF : Hid (m < 128 ^ (f + 1)) := hmf
    have hjb : j ≤ 70368744177664 + 9 := by omega
    clear ho hb hd hj hmf
    by_cases h128 : m < 128
    · have hx := low_byte' h128
      have HN : Hid (num n = d ++ [UInt8.ofNat m]) := by rw [← HD.out, numF_low h128]; exact rfl
      have hx2 := low_byte m
      generalize UInt8.ofNat m = x at *
      have hx3 : IntKind.u8.wrap (m : Int) = (x.toNat : Int) := by rw [IntKind.wrap_u8']; omega
      have hgt : decide ((128 : Int) ≤ (m : Int)) = false := decide_eq_false (by omega)
      clear hx hx2 h128
      go_wp2_with (at_builtin; refine append_bytes (w := wr.alloc (.cells #[.int .u8 x.toNat] 5)) rfl _ _ rfl B (.slice q' j c') (l ++ d) [x] rfl (HO.out.keep ((Below.refl _ wr).alloc (Nat.le_refl _) _)) (some ⟨wr.heap.size, 0, none⟩) 1 1 rfl rfl (fun e => by cases e) lies_one (by rw [HL.out]; simp; omega) (by have := HS.out; simp; omega) ?_; intro v' w' h1 h2)
      go_ret
      refine ⟨v', rfl, ?_, HB.out.trans (((Below.refl B wr).alloc HS.out _).trans h2)⟩
      rw [HN.out, ← List.append_assoc]
      exact h1
    · obtain ⟨f, rfl⟩ : ∃ f', f = f' + 1 := by
        refine ⟨f - 1, ?_⟩
        rcases Nat.eq_zero_or_pos f with h | h
        · subst h; have := HF.out; simp at this; omega
        · omega
      have hor := rem_high m
      have HN : Hid (d ++ [UInt8.ofNat (m % 128 + 128)] ++ numF (f + 1) (m / 128) = num n) := by rw [← HD.out, numF_high h128, List.append_assoc]; exact rfl
      generalize UInt8.ofNat (m % 128 + 128) = x at *
      have hgt : (128 : Int) ≤ (m : Int) := by omega
      have HF2 : Hid (m / 128 < 128 ^ (f + 1)) := by
        have h2 : m < 128 ^ (f + 1) * 128 := by have := HF.out; rwa [Nat.pow_succ] at this
        exact Nat.div_lt_of_lt_mul (by rw [Nat.mul_comm]; exact h2)
      clear h128 HF
      go_wp2_with (at_builtin; refine append_bytes (w := wr.alloc (.cells #[.int .u8 x.toNat] 5)) rfl _ _ rfl B (.slice q' j c') (l ++ d) [x] rfl (HO.out.keep ((Below.refl _ wr).alloc (Nat.le_refl _) _)) (some ⟨wr.heap.size, 0, none⟩) 1 1 rfl rfl (fun e => by cases e) lies_one (by rw [HL.out]; simp; omega) (by have := HS.out; simp; omega) ?_; intro v' w' h1 h2)
      obtain ⟨q2, c2, rfl, _⟩ := h1.shape
      refine ⟨⟨m / 128, f, (l ++ d ++ [x]).length, d ++ [x], q2, c2, rfl, rfl, by omega, HF2.out, by simp; omega, by have := HL.out; have := HJ.out; simp at *; omega, HN.out, ?_, HB.out.trans (((Below.refl B wr).alloc HS.out _).trans h2)⟩, ?_⟩
      · rw [← List.append_assoc]; exact h1
      · simp [intOf]; omega

theorem refNumber_any (B n k : Nat) (q : Option Addr) (c : Nat) (l : List UInt8) (w : World) (hn : n < 9223372036854775808) (hown : Own w B (.slice q k c) l) (hB : B ≤ w.heap.size) (hl : k ≤ 70368744177664) :
    Calls Try.prog 24 #[.slice q k c, .int .i64 n] w fun e w' => ∃ q' k' c', e = .returned (.slice q' k' c') ∧ Own w' B (.slice q' k' c') (l ++ num n) ∧ Below B w w' := by
  refine (refNumber_at B n k q c l w hn (own_parts hown).2.2 hown hB hl).mono ?_
  rintro e w' ⟨v', rfl, h1, h2⟩
  obtain ⟨a, c', rfl, _⟩ := h1.shape
  exact ⟨a, _, c', rfl, h1, h2⟩

set_option maxHeartbeats 400000 in
theorem refText_at (B k : Nat) (q : Option Addr) (c : Nat) (l : List UInt8) (s : ByteArray) (w : World) (hown : Hid (Own w B (.slice q k c) l)) (hB : Hid (B ≤ w.heap.size)) (hl : k ≤ 35184372088832) (hs : s.size ≤ 35184372088832) :
    Calls Try.prog 23 #[.slice q k c, .string s] w fun e w' => ∃ v', e = .returned v' ∧ Own w' B v' (l ++ num s.size ++ s.data.toList) ∧ Below B w w' := by
  have H : Hid (Calls Try.prog 24 #[.slice q k c, .int .i64 s.size] w fun e w' => ∃ q' k' c', e = .returned (.slice q' k' c') ∧ Own w' B (.slice q' k' c') (l ++ num s.size) ∧ Below B w w') := refNumber_any B s.size k q c l w (by omega) hown.out hB.out (by omega)
  have HL : Hid ((l ++ num s.size).length ≤ 35184372088832 + 10) := by have := num_length s.size; have := (own_parts hown.out).2.2; unfold Hid; rw [List.length_append]; omega
  go_enter Try.func23, Try.ntmps23
  go_wp2_with (first
    | (go_at_call 24; refine H.out.mono ?_; rintro e w1 ⟨q1, k1, c1, rfl, o1, b1⟩)
    | (at_builtin; refine append_text rfl _ _ rfl B (.slice q1 k1 c1) (l ++ num s.size) rfl o1 s rfl (by have := HL.out; omega) (Nat.le_trans hB.out b1.size) ?_; intro v' w' h1 h2))
  go_ret
  exact ⟨v', rfl, h1, b1.trans h2⟩

theorem refText_any (B k : Nat) (q : Option Addr) (c : Nat) (l : List UInt8) (s : ByteArray) (w : World) (hown : Own w B (.slice q k c) l) (hB : B ≤ w.heap.size) (hl : k ≤ 35184372088832) (hs : s.size ≤ 35184372088832) :
    Calls Try.prog 23 #[.slice q k c, .string s] w fun e w' => ∃ q' k' c', e = .returned (.slice q' k' c') ∧ Own w' B (.slice q' k' c') (l ++ num s.size ++ s.data.toList) ∧ Below B w w' := by
  refine (refText_at B k q c l s w hown hB hl hs).mono ?_
  rintro e w' ⟨v', rfl, h1, h2⟩
  obtain ⟨a, c', rfl, _⟩ := h1.shape
  exact ⟨a, _, c', rfl, h1, h2⟩

end Go.Proofs.Ytnkkiepoljbhlaa
