/-
  Plain mathematics of frames: the check, four bytes of a number, frames and what is opened. The contracts of checkOn, check, four, addFour and Frame. The contract of wire.Open.
-/
import Derived.Test.YtplcpjngpkghmaaOv
import Derived.Deep.CutBlock
import Derived.Deep.CutRange
import Derived.Deep.DeepCutAuto
namespace Go.Proofs.Ytplcpjngpkghmaa.Crc

/-- one bit of the check -/
def bit (c : Nat) : Nat := if c % 2 = 1 then (c / 2) ^^^ 3988292384 else c / 2
def bits : Nat → Nat → Nat
  | 0, c => c
  | k + 1, c => bit (bits k c)
/-- one byte -/
def byte (c x : Nat) : Nat := bits 8 (c ^^^ x)
def next (c : Nat) (x : UInt8) : Nat := byte c x.toNat
def on (c : Nat) (l : List UInt8) : Nat := l.foldl next c
theorem on_nil (c : Nat) : on c [] = c := List.foldl_nil
theorem on_cons (c : Nat) (x : UInt8) (l : List UInt8) : on c (x :: l) = on (next c x) l := List.foldl_cons ..
theorem on_append (c : Nat) (a b : List UInt8) : on c (a ++ b) = on (on c a) b := List.foldl_append
theorem on_snoc (c : Nat) (a : List UInt8) (x : UInt8) : on c (a ++ [x]) = byte (on c a) x.toNat := by rw [on_append, on_cons, on_nil, next]
def crc (l : List UInt8) : Nat := on 4294967295 l ^^^ 4294967295

theorem xor_lt {a b : Nat} (ha : a < 4294967296) (hb : b < 4294967296) : a ^^^ b < 4294967296 := Nat.xor_lt_two_pow (n := 32) ha hb
theorem bit_lt {c : Nat} (h : c < 4294967296) : bit c < 4294967296 := by
  unfold bit
  split
  · exact xor_lt (by omega) (by omega)
  · omega
theorem bits_lt {c : Nat} (h : c < 4294967296) : ∀ k, bits k c < 4294967296
  | 0 => h
  | k + 1 => bit_lt (bits_lt h k)
theorem byte_lt {c : Nat} (x : UInt8) (h : c < 4294967296) : byte c x.toNat < 4294967296 :=
  bits_lt (xor_lt h (by have := x.toNat_lt; omega)) 8
theorem on_lt (l : List UInt8) : ∀ {c : Nat}, c < 4294967296 → on c l < 4294967296 := by
  induction l with
  | nil => intro c h; rw [on_nil]; exact h
  | cons x l ih => intro c h; rw [on_cons]; exact ih (byte_lt x h)
theorem crc_lt (l : List UInt8) : crc l < 4294967296 := by
  unfold crc
  have := on_lt l (c := 4294967295) (by omega)
  generalize on 4294967295 l = k at *
  exact xor_lt this (by omega)
theorem xor_cancel {a b p : Nat} (h : a ^^^ p = b ^^^ p) : a = b := by
  have := congrArg (· ^^^ p) h
  simpa [Nat.xor_assoc] using this
theorem xor_cancel' {a b p : Nat} (h : p ^^^ a = p ^^^ b) : a = b := xor_cancel (p := p) (by rw [Nat.xor_comm a, Nat.xor_comm b]; exact h)

theorem top_no {c : Nat} (h : c < 2147483648) : c.testBit 31 = false := Nat.testBit_lt_two_pow (by omega)
theorem top_yes {c : Nat} (h : c < 2147483648) : (c ^^^ 3988292384).testBit 31 = true := by
  rw [Nat.testBit_xor, top_no h]; decide

theorem bit_inj {c d : Nat} (hc : c < 4294967296) (hd : d < 4294967296) (h : bit c = bit d) : c = d := by
  unfold bit at h
  by_cases h1 : c % 2 = 1 <;> by_cases h2 : d % 2 = 1
  · rw [if_pos h1, if_pos h2] at h
    have := xor_cancel h
    omega
  · rw [if_pos h1, if_neg h2] at h
    have a := top_yes (c := c / 2) (by omega)
    have b := top_no (c := d / 2) (by omega)
    rw [h, b] at a
    cases a
  · rw [if_neg h1, if_pos h2] at h
    have a := top_yes (c := d / 2) (by omega)
    have b := top_no (c := c / 2) (by omega)
    rw [← h, b] at a
    cases a
  · rw [if_neg h1, if_neg h2] at h
    omega
theorem bits_inj {c d : Nat} (hc : c < 4294967296) (hd : d < 4294967296) : ∀ k, bits k c = bits k d → c = d
  | 0, h => h
  | k + 1, h => bits_inj hc hd k (bit_inj (bits_lt hc k) (bits_lt hd k) h)
theorem byte_inj {c d : Nat} (x : UInt8) (hc : c < 4294967296) (hd : d < 4294967296) (h : byte c x.toNat = byte d x.toNat) : c = d := by
  have := x.toNat_lt
  exact xor_cancel (bits_inj (xor_lt hc (by omega)) (xor_lt hd (by omega)) 8 h)
theorem byte_other {c : Nat} (x y : UInt8) (hc : c < 4294967296) (h : byte c x.toNat = byte c y.toNat) : x = y := by
  have := x.toNat_lt
  have := y.toNat_lt
  exact UInt8.toNat_inj.1 (xor_cancel' (bits_inj (xor_lt hc (by omega)) (xor_lt hc (by omega)) 8 h))
theorem on_inj (l : List UInt8) : ∀ {c d : Nat}, c < 4294967296 → d < 4294967296 → on c l = on d l → c = d := by
  induction l with
  | nil => intro c d _ _ h; rwa [on_nil, on_nil] at h
  | cons x l ih =>
    intro c d hc hd h
    rw [on_cons, on_cons] at h
    exact byte_inj x hc hd (ih (byte_lt x hc) (byte_lt x hd) h)
/-- one byte turned is met -/
theorem crc_turn {a b : List UInt8} {x y : UInt8} (h : crc (a ++ x :: b) = crc (a ++ y :: b)) : x = y := by
  unfold crc at h
  have h := xor_cancel h
  rw [on_append, on_append, on_cons, on_cons] at h
  have hl := on_lt a (c := 4294967295) (by omega)
  exact byte_other x y hl (on_inj b (byte_lt x hl) (byte_lt y hl) h)

/-- four bytes, the lowest first -/
def fourB (n : Nat) : List UInt8 := [UInt8.ofNat n, UInt8.ofNat (n / 256), UInt8.ofNat (n / 65536), UInt8.ofNat (n / 16777216)]
def fourN : List UInt8 → Nat
  | a :: b :: c :: d :: _ => a.toNat + b.toNat * 256 + c.toNat * 65536 + d.toNat * 16777216
  | _ => 0
theorem fourB_length (n : Nat) : (fourB n).length = 4 := rfl
theorem fourN_fourB {n : Nat} (h : n < 4294967296) (l : List UInt8) : fourN (fourB n ++ l) = n := by
  simp only [fourB, fourN, List.cons_append, List.nil_append, UInt8.toNat_ofNat']
  omega
theorem fourB_fourN (a b c d : UInt8) (l : List UInt8) : fourB (fourN (a :: b :: c :: d :: l)) = [a, b, c, d] := by
  have := a.toNat_lt
  have := b.toNat_lt
  have := c.toNat_lt
  have := d.toNat_lt
  simp only [fourB, fourN, List.cons.injEq, and_true, ← UInt8.toNat_inj, UInt8.toNat_ofNat']
  omega
theorem fourN_lt (l : List UInt8) : fourN l < 4294967296 := by
  match l with
  | [] => exact (by decide : (0 : Nat) < 4294967296)
  | [_] => exact (by decide : (0 : Nat) < 4294967296)
  | [_, _] => exact (by decide : (0 : Nat) < 4294967296)
  | [_, _, _] => exact (by decide : (0 : Nat) < 4294967296)
  | a :: b :: c :: d :: _ =>
    have := a.toNat_lt
    have := b.toNat_lt
    have := c.toNat_lt
    have := d.toNat_lt
    simp only [fourN]
    omega

def frame (l : List UInt8) : List UInt8 := fourB l.length ++ fourB (crc (fourB l.length ++ l)) ++ l
theorem frame_length (l : List UInt8) : (frame l).length = l.length + 8 := by
  simp only [frame, List.length_append, fourB_length]; omega

/-- what is in the frame ahead, and what stands behind it -/
def opened (l : List UInt8) : Option (List UInt8 × List UInt8) :=
  if l.length < 8 then none
  else if 4096 < fourN l ∨ l.length - 8 < fourN l then none
  else if fourN (l.drop 4) = crc (l.take 4 ++ (l.drop 8).take (fourN l)) then some ((l.drop 8).take (fourN l), (l.drop 8).drop (fourN l))
  else none

theorem opened_frame (l r : List UInt8) (h : l.length ≤ 4096) : opened (frame l ++ r) = some (l, r) := by
  have hc := crc_lt (fourB l.length ++ l)
  have e1 : fourN (frame l ++ r) = l.length := by
    unfold frame; rw [List.append_assoc, List.append_assoc]; exact fourN_fourB (by omega) _
  have e2 : (frame l ++ r).drop 4 = fourB (crc (fourB l.length ++ l)) ++ (l ++ r) := by
    unfold frame; rw [List.append_assoc, List.append_assoc]; rfl
  have e3 : (frame l ++ r).drop 8 = l ++ r := by
    unfold frame; rw [List.append_assoc, List.append_assoc]; rfl
  have e4 : (frame l ++ r).take 4 = fourB l.length := by
    unfold frame; rw [List.append_assoc, List.append_assoc]; rfl
  unfold opened
  rw [e1, e2, e3, e4, if_neg (by rw [List.length_append, frame_length]; omega), if_neg (by rw [List.length_append, frame_length]; omega), fourN_fourB hc]
  rw [List.take_left, List.drop_left, if_pos rfl]

theorem eight : ∀ (l : List UInt8), ¬ l.length < 8 → ∃ a b c d e f g i r, l = a :: b :: c :: d :: e :: f :: g :: i :: r
  | a :: b :: c :: d :: e :: f :: g :: i :: l, _ => ⟨a, b, c, d, e, f, g, i, l, rfl⟩
  | [], h => (h (Nat.lt_of_sub_eq_succ rfl)).elim
  | [_], h => (h (Nat.lt_of_sub_eq_succ rfl)).elim
  | [_, _], h => (h (Nat.lt_of_sub_eq_succ rfl)).elim
  | [_, _, _], h => (h (Nat.lt_of_sub_eq_succ rfl)).elim
  | [_, _, _, _], h => (h (Nat.lt_of_sub_eq_succ rfl)).elim
  | [_, _, _, _, _], h => (h (Nat.lt_of_sub_eq_succ rfl)).elim
  | [_, _, _, _, _, _], h => (h (Nat.lt_of_sub_eq_succ rfl)).elim
  | [_, _, _, _, _, _, _], h => (h (Nat.lt_of_sub_eq_succ rfl)).elim

theorem same_at (a b c d e f g i : UInt8) (l : List UInt8) (n m : Nat) (hm : fourN (e :: f :: g :: i :: l) = m) (hn : fourN (a :: b :: c :: d :: e :: f :: g :: i :: l) = n) (hl : n ≤ l.length) :
    (frame (l.take n) = a :: b :: c :: d :: e :: f :: g :: i :: l.take n) ↔ m = crc (a :: b :: c :: d :: l.take n) := by
  have hB := fourB_fourN a b c d (e :: f :: g :: i :: l)
  have hC := fourB_fourN e f g i l
  rw [hn] at hB
  rw [hm] at hC
  have hl : (l.take n).length = n := by rw [List.length_take]; omega
  unfold frame
  rw [hl, hB]
  have hXl := crc_lt (a :: b :: c :: d :: l.take n)
  simp only [List.cons_append, List.nil_append]
  generalize crc (a :: b :: c :: d :: l.take n) = X at *
  constructor
  · intro h
    have h2 : fourB X = [e, f, g, i] := by
      simp only [List.cons.injEq, true_and, fourB, List.cons_append, and_true] at h ⊢
      exact ⟨h.1, h.2.1, h.2.2.1, h.2.2.2.1⟩
    have := fourN_fourB hXl l
    rw [h2] at this
    simp only [List.cons_append, List.nil_append] at this
    exact hm.symm.trans this
  · intro h
    subst h
    rw [hC]
    simp only [List.cons_append, List.nil_append]

/-- the reference's way: the frame of what is inside stands ahead -/
theorem opened_same (l : List UInt8) (h8 : ¬ l.length < 8) (h : ¬ (4096 < fourN l ∨ l.length - 8 < fourN l)) :
    (frame ((l.drop 8).take (fourN l)) = l.take (8 + fourN l)) ↔ fourN (l.drop 4) = crc (l.take 4 ++ (l.drop 8).take (fourN l)) := by
  obtain ⟨a, b, c, d, e, f, g, i, r, rfl⟩ := eight l h8
  obtain ⟨n, hn⟩ : ∃ n, fourN (a :: b :: c :: d :: e :: f :: g :: i :: r) = n := ⟨_, rfl⟩
  have e4 : (a :: b :: c :: d :: e :: f :: g :: i :: r).drop 4 = e :: f :: g :: i :: r := rfl
  obtain ⟨m, hm⟩ : ∃ m, fourN (e :: f :: g :: i :: r) = m := ⟨_, rfl⟩
  have e8 : (a :: b :: c :: d :: e :: f :: g :: i :: r).drop 8 = r := rfl
  have t4 : (a :: b :: c :: d :: e :: f :: g :: i :: r).take 4 = [a, b, c, d] := rfl
  have t8 : (a :: b :: c :: d :: e :: f :: g :: i :: r).take (n + 8) = a :: b :: c :: d :: e :: f :: g :: i :: r.take n := rfl
  rw [hn] at h ⊢
  rw [e4, hm, e8, t4, Nat.add_comm 8 n, t8]
  refine same_at a b c d e f g i r n m hm hn ?_
  simp only [List.length_cons] at h
  omega

end Go.Proofs.Ytplcpjngpkghmaa.Crc

namespace Go.Proofs.Ytplcpjngpkghmaa
open Go.RowKit

theorem xor_nat (a b : Nat) (ha : a < 4294967296) (hb : b < 4294967296) : bits .xor .u32 (a : Int) (b : Int) = ((a ^^^ b : Nat) : Int) := u32_xor_nat a b ha hb

theorem and_one (v : Nat) (h : v < 4294967296) (r : Int) (hr : (v % 2 : Nat) = r) : bits .and .u32 (v : Int) 1 = r := by
  rw [u32_and _ _ (by omega) (by omega) (by omega) (by omega)]
  simp only [Int.toNat_natCast, Int.reduceToNat, Nat.and_one_is_mod]
  exact hr

set_option maxHeartbeats 1000000 in
theorem checkOn_some (l : List UInt8) (g o cap c n : Nat) (w : World) (hc : c < 4294967296) (hL : Hid (l.length = n)) (hn : n < 1152921504606846976) (hr : Hid (Row w g o l)) :
    Calls Try.prog 68 #[.int .u32 c, .slice (some ⟨g, o, none⟩) n cap] w fun e w' => e = .returned (.int .u32 (Crc.on c l)) ∧ w' = w := by
  go_enter Try.func68, Try.ntmps68
  go_wp2_with fail
  go_loop [0, 10] (fun s i => ∃ k : Nat, k ≤ n ∧ i = .int .i64 k ∧ s = .int .u32 (Crc.on c (l.take k))) (fun _ i => n - (intOf i).toNat)
  case atStart => exact ⟨0, Nat.zero_le _, rfl, by rw [List.take_zero, Crc.on_nil]⟩
  case round =>
    obtain ⟨k, hk, rfl, rfl⟩ := hrel
    by_cases hlt : k < n
    · obtain ⟨x, hx⟩ : ∃ x, l[k]? = some x := ⟨l[k]'(by have := hL.out; omega), List.getElem?_eq_getElem _⟩
      have h0 := hr.out k x hx
      have HS : Hid (Crc.on c (l.take (k + 1)) = Crc.byte (Crc.on c (l.take k)) x.toNat) := by rw [take_snoc hx, Crc.on_snoc]; rfl
      have hb := u8_bd x
      have hs := Crc.on_lt (l.take k) hc
      clear hx
      generalize Crc.on c (l.take k) = s at *
      generalize hs' : Crc.on c (l.take (k + 1)) = s' at *
      have HS' : Hid (Crc.on c (l.take (k + 1)) = s') := hs'
      clear hs'
      have hxt := xor_nat s x.toNat hs (by omega)
      have ht : s ^^^ x.toNat < 4294967296 := Crc.xor_lt hs (by omega)
      have HT : Hid (s' = Crc.bits 8 (s ^^^ x.toNat)) := HS.out
      clear HS
      generalize s ^^^ x.toNat = t at *
      go_wp2_with fail
      clear h0 hxt
      go_loop [0, 18] (fun s i => ∃ j : Nat, j ≤ 8 ∧ i = .int .i64 j ∧ s = .int .u32 (Crc.bits j t)) (fun _ i => 8 - (intOf i).toNat)
      case atStart => exact ⟨0, Nat.zero_le _, rfl, by rw [Crc.bits]⟩
      case round =>
        obtain ⟨j, hj, rfl, rfl⟩ := hrel
        by_cases h8 : j < 8
        · have HB : Hid (Crc.bits (j + 1) t = Crc.bit (Crc.bits j t)) := by rw [Crc.bits]; exact rfl
          have hv := Crc.bits_lt ht j
          generalize Crc.bits j t = v at *
          by_cases hodd : v % 2 = 1
          · have ha : bits .and .u32 (v : Int) 1 = 1 := and_one v hv 1 (by omega)
            have HV : Hid (Crc.bits (j + 1) t = (v / 2) ^^^ 3988292384) := by rw [HB.out, Crc.bit, if_pos hodd]; exact rfl
            have hp : bits .xor .u32 ((v : Int) / 2) 3988292384 = (((v / 2) ^^^ 3988292384 : Nat) : Int) := xor_nat (v / 2) 3988292384 (by omega) (by omega)
            generalize (v / 2) ^^^ 3988292384 = m at *
            clear hodd
            go_wp2_with fail
            refine ⟨⟨j + 1, by omega, by go_num, ?_⟩, ?_⟩
            · rw [HV.out]
            · simp [intOf]; omega
          · have ha : bits .and .u32 (v : Int) 1 = 0 := and_one v hv 0 (by omega)
            have HV : Hid (Crc.bits (j + 1) t = v / 2) := by rw [HB.out, Crc.bit, if_neg hodd]; exact rfl
            clear hodd
            go_wp2_with fail
            refine ⟨⟨j + 1, by omega, by go_num, ?_⟩, ?_⟩
            · rw [HV.out]; rfl
            · simp [intOf]; omega
        · have e8 : j = 8 := by omega
          subst e8
          rw [← HT.out]
          go_wp2_with fail
          go_round
          case rel => exact ⟨k + 1, by omega, by go_num, by rw [HS'.out]⟩
          case measure => simp [intOf]; omega
    · have HA : Hid (Crc.on c (l.take k) = Crc.on c l) := by rw [List.take_of_length_le (by have := hL.out; omega)]; exact rfl
      go_wp2_with fail
      go_ret
      exact ⟨by rw [← HA.out]; rfl, rfl⟩

set_option maxHeartbeats 400000 in
theorem checkOn_none (a : Option Addr) (cap c : Nat) (w : World) :
    Calls Try.prog 68 #[.int .u32 c, .slice a 0 cap] w fun e w' => e = .returned (.int .u32 c) ∧ w' = w := by
  go_enter Try.func68, Try.ntmps68
  go_wp2_with fail
  go_rounds 1
  go_ret
  exact ⟨rfl, rfl⟩

theorem checkOn_any (l : List UInt8) (a : Option Addr) (cap c : Nat) (w : World) (hc : c < 4294967296) (hn : l.length < 1152921504606846976) (h : Lies w a l) :
    Calls Try.prog 68 #[.int .u32 c, .slice a l.length cap] w fun e w' => e = .returned (.int .u32 (Crc.on c l)) ∧ w' = w := by
  rcases h with rfl | ⟨g, o, rfl, h⟩
  · rw [Crc.on_nil]; exact checkOn_none a cap c w
  · exact checkOn_some l g o cap c l.length w hc rfl hn h

set_option maxHeartbeats 400000 in
theorem check_at (s t r : Nat) (v u : Value) (w : World) (hr : bits .xor .u32 4294967295 (t : Int) = (r : Int))
    (H1 : Hid (Calls Try.prog 68 #[.int .u32 4294967295, v] w fun e w' => e = .returned (.int .u32 s) ∧ w' = w))
    (H2 : Hid (Calls Try.prog 68 #[.int .u32 s, u] w fun e w' => e = .returned (.int .u32 t) ∧ w' = w)) :
    Calls Try.prog 58 #[v, u] w fun e w' => e = .returned (.int .u32 r) ∧ w' = w := by
  have hm : IntKind.u32.max = 4294967295 := rfl
  go_enter Try.func58, Try.ntmps58
  go_wp2_with (first | (go_at_call_of 68 #[Value.int .u32 4294967295, v]; refine H1.out.mono ?_; rintro e w1 ⟨rfl, rfl⟩) | (go_at_call_of 68 #[Value.int .u32 (s : Int), u]; refine H2.out.mono ?_; rintro e w1 ⟨rfl, rfl⟩))
  go_ret
  exact ⟨rfl, rfl⟩

theorem check_any (l m : List UInt8) (a b : Option Addr) (c d : Nat) (w : World) (hl : l.length < 1152921504606846976) (hm : m.length < 1152921504606846976) (ha : Lies w a l) (hb : Lies w b m) :
    Calls Try.prog 58 #[.slice a l.length c, .slice b m.length d] w fun e w' => e = .returned (.int .u32 (Crc.crc (l ++ m))) ∧ w' = w := by
  have k1 := Crc.on_lt l (c := 4294967295) (by omega)
  have k2 := Crc.on_lt m k1
  refine check_at _ _ _ _ _ w ?_ (checkOn_any l a c 4294967295 w (by omega) hl ha) (checkOn_any m b d _ w k1 hm hb)
  rw [Crc.crc, Crc.on_append, Nat.xor_comm]
  exact xor_nat 4294967295 _ (by omega) k2

theorem at_alloc {w : World} {n : Nat} {o x : Obj} (h : w.heap[n]? = some x) : (w.alloc o).heap[n]? = some x := (Below.heap_alloc w o n (Array.getElem?_eq_some_iff.1 h).1).trans h
/-- the four bytes of a number, as they are laid -/
def fourC (n : Nat) : Array Value := #[.int .u8 ((n : Int) % 256), .int .u8 ((n : Int) / 256 % 256), .int .u8 ((n : Int) / 65536 % 256), .int .u8 ((n : Int) / 16777216)]
theorem fourC_eq {n : Nat} (hn : n < 4294967296) : (fourC n).toList = bv (Crc.fourB n) := by
  simp only [fourC, bv, Crc.fourB, List.map_cons, List.map_nil, UInt8.toNat_ofNat', List.cons.injEq, Value.int.injEq, true_and, and_true]
  omega
theorem own_four {w : World} {n B : Nat} (hn : n < 4294967296) (hB : B ≤ w.heap.size) : Own (w.alloc (.cells (fourC n) 5)) B (.slice (some ⟨w.heap.size, 0, none⟩) 4 4) (Crc.fourB n) :=
  ⟨rfl, .inr ⟨w.heap.size, 4, fourC n, rfl, hB, new0, Nat.le_refl _, by decide, rfl, by rw [fourC_eq hn]; rfl⟩⟩
theorem lies_four {w : World} {n : Nat} (hn : n < 4294967296) : Lies (w.alloc (.cells (fourC n) 5)) (some ⟨w.heap.size, 0, none⟩) (Crc.fourB n) := by
  obtain ⟨a, c, e, h, _⟩ := (own_four (w := w) (B := 0) hn (Nat.zero_le _)).shape
  cases e
  exact h

set_option maxHeartbeats 400000 in
set_option maxRecDepth 100000 in
theorem addFour_at (B n k : Nat) (q : Option Addr) (c : Nat) (l : List UInt8) (w : World) (hn : n < 4294967296) (hk : Hid (l.length = k)) (hown : Hid (Own w B (.slice q k c) l)) (hB : B ≤ w.heap.size) (hl : k ≤ 70368744177664) :
    Calls Try.prog 57 #[.slice q k c, .int .u32 n] w fun e w' => ∃ v', e = .returned v' ∧ Own w' B v' (l ++ Crc.fourB n) ∧ Below B w w' := by
  go_enter Try.func57, Try.ntmps57
  go_wp2_with (at_builtin; refine append_bytes (w := w.alloc (.cells (fourC n) 5)) rfl _ _ rfl B (.slice q k c) l (Crc.fourB n) rfl (hown.out.keep ((Below.refl _ w).alloc (Nat.le_refl _) _)) (some ⟨w.heap.size, 0, none⟩) 4 4 rfl rfl (fun e => by cases e) (lies_four hn) (by rw [hk.out, Crc.fourB_length]; omega) (by simp; omega) ?_; intro v' w' h1 h2)
  go_ret
  exact ⟨v', rfl, h1, ((Below.refl B w).alloc hB _).trans h2⟩

theorem addFour_any (B n : Nat) (q : Option Addr) (c : Nat) (l : List UInt8) (w : World) (hn : n < 4294967296) (hown : Own w B (.slice q l.length c) l) (hB : B ≤ w.heap.size) (hl : l.length ≤ 70368744177664) :
    Calls Try.prog 57 #[.slice q l.length c, .int .u32 n] w fun e w' => ∃ q' c', e = .returned (.slice q' (l.length + 4 : Nat) c') ∧ Own w' B (.slice q' (l.length + 4 : Nat) c') (l ++ Crc.fourB n) ∧ Below B w w' := by
  refine (addFour_at B n l.length q c l w hn rfl hown hB hl).mono ?_
  rintro e w' ⟨v', rfl, h1, h2⟩
  obtain ⟨a, c', rfl, _⟩ := h1.shape
  rw [List.length_append, Crc.fourB_length] at h1 ⊢
  exact ⟨a, c', rfl, h1, h2⟩

theorem four_bits (a b c d : UInt8) : bits .or .u32 (bits .or .u32 (bits .or .u32 (a.toNat : Int) ((b.toNat : Int) * 256)) ((c.toNat : Int) * 65536)) ((d.toNat : Int) * 16777216) = ((a.toNat + b.toNat * 256 + c.toNat * 65536 + d.toNat * 16777216 : Nat) : Int) := by
  have := a.toNat_lt
  have := b.toNat_lt
  have := c.toNat_lt
  have := d.toNat_lt
  generalize a.toNat = a at *
  generalize b.toNat = b at *
  generalize c.toNat = c at *
  generalize d.toNat = d at *
  have e1 : bits .or .u32 (a : Int) ((b : Int) * 256) = ((a + b * 256 : Nat) : Int) := by
    rw [show ((b : Int) * 256) = ((b * 256 : Nat) : Int) by omega, u32_or_nat _ _ (by omega) (by omega), ← join (k := 8) b (by omega)]
  rw [e1]
  have e2 : bits .or .u32 ((a + b * 256 : Nat) : Int) ((c : Int) * 65536) = ((a + b * 256 + c * 65536 : Nat) : Int) := by
    rw [show ((c : Int) * 65536) = ((c * 65536 : Nat) : Int) by omega, u32_or_nat _ _ (by omega) (by omega), ← join (k := 16) c (by omega)]
  rw [e2, show ((d : Int) * 16777216) = ((d * 16777216 : Nat) : Int) by omega, u32_or_nat _ _ (by omega) (by omega), ← join (k := 24) d (by omega)]

set_option maxHeartbeats 400000 in
theorem four_at (a b c d : UInt8) (g o k cap r : Nat) (w : World) (hk : 4 ≤ k) (hr : Hid (Row w g o [a, b, c, d])) (hR : bits .or .u32 (bits .or .u32 (bits .or .u32 (a.toNat : Int) ((b.toNat : Int) * 256)) ((c.toNat : Int) * 65536)) ((d.toNat : Int) * 16777216) = (r : Int)) :
    Calls Try.prog 90 #[.slice (some ⟨g, o, none⟩) k cap] w fun e w' => e = .returned (.int .u32 r) ∧ ∃ n, w' = w.drewN n := by
  have h0 := hr.out 0 a rfl
  have h1 := hr.out 1 b rfl
  have h2 := hr.out 2 c rfl
  have h3 := hr.out 3 d rfl
  have ba := u8_bd a
  have bb := u8_bd b
  have bc := u8_bd c
  have bd := u8_bd d
  rw [Nat.add_zero] at h0
  go_enter Try.func90, Try.ntmps90
  go_wp2_with fail
  go_quiet (fail)
  go_wp2_with fail
  go_ret
  exact ⟨rfl, _, rfl⟩

theorem four_any (a b c d : UInt8) (l : List UInt8) (g o k cap : Nat) (w : World) (hk : 4 ≤ k) (hr : Row w g o (a :: b :: c :: d :: l)) :
    Calls Try.prog 90 #[.slice (some ⟨g, o, none⟩) k cap] w fun e w' => e = .returned (.int .u32 (Crc.fourN (a :: b :: c :: d :: l))) ∧ ∃ n, w' = w.drewN n := by
  refine four_at a b c d g o k cap _ w hk (fun j x hx => hr j x ?_) (four_bits a b c d)
  match j, hx with
  | 0, hx => exact hx
  | 1, hx => exact hx
  | 2, hx => exact hx
  | 3, hx => exact hx

theorem addFour_nil (B n : Nat) (w : World) (hn : n < 4294967296) (hB : B ≤ w.heap.size) :
    Calls Try.prog 57 #[.slice none 0 0, .int .u32 n] w fun e w' => ∃ q' c', e = .returned (.slice q' 4 c') ∧ Own w' B (.slice q' 4 c') (Crc.fourB n) ∧ Below B w w' := addFour_any B n none 0 [] w hn (Own.nil w B) hB (by simp)
theorem addFour_two (B n m : Nat) (q : Option Addr) (c : Nat) (w : World) (hn : n < 4294967296) (hown : Own w B (.slice q 4 c) (Crc.fourB m)) (hB : B ≤ w.heap.size) :
    Calls Try.prog 57 #[.slice q 4 c, .int .u32 n] w fun e w' => ∃ q' c', e = .returned (.slice q' 8 c') ∧ Own w' B (.slice q' 8 c') (Crc.fourB m ++ Crc.fourB n) ∧ Below B w w' := addFour_any B n q c (Crc.fourB m) w hn hown hB (by rw [Crc.fourB_length]; omega)

set_option maxHeartbeats 1000000 in
theorem frame_at (l : List UInt8) (a : Option Addr) (c n k : Nat) (w : World) (hn : Hid (l.length = n)) (hle : n ≤ 4096) (ha : Hid (Lies w a l)) (hc : Hid (a = none → c = 0)) (hk : Hid (Crc.crc (Crc.fourB n ++ l) = k)) :
    Calls Try.prog 43 #[.slice a n c] w fun e w' => ∃ v, e = .returned (.tuple #[v, .int .i64 0]) ∧ Own w' w.heap.size v (Crc.fourB n ++ Crc.fourB k ++ l) ∧ Below w.heap.size w w' := by
  have HK : Hid (k < 4294967296) := by rw [← hk.out]; exact Crc.crc_lt _
  go_enter Try.func43, Try.ntmps43
  go_wp2_with (first
    | (go_at_call_of 57 (Value.slice none 0 0); refine (addFour_nil w.heap.size n _ (by omega) (Nat.le_refl _)).mono ?_; rintro e w1 ⟨q1, c1, rfl, o1, b1⟩; have O1 : Hid (Own w1 w.heap.size (.slice q1 4 c1) (Crc.fourB n)) := o1; have B1 : Hid (Below w.heap.size w w1) := b1; clear o1 b1)
    | (go_at_call 58; refine (check_any (Crc.fourB n) l q1 a c1 c w1 (by rw [Crc.fourB_length]; omega) (by rw [hn.out]; omega) (own_parts O1.out).1 (ha.out.keep B1.out (Nat.le_refl _)) |> fun h => (by rw [hn.out, Crc.fourB_length, hk.out] at h; exact h : Calls Try.prog 58 #[.slice q1 4 c1, .slice a n c] w1 fun e w' => e = .returned (.int .u32 k) ∧ w' = w1)).mono ?_; rintro e w2 ⟨rfl, rfl⟩)
    | (go_at_call 57; refine (addFour_two w.heap.size k n q1 c1 _ HK.out O1.out B1.out.size).mono ?_; rintro e w3 ⟨q3, c3, rfl, o3, b3⟩; have O3 : Hid (Own w3 w.heap.size (.slice q3 8 c3) (Crc.fourB n ++ Crc.fourB k)) := o3; have B3 : Hid (Below w.heap.size w w3) := B1.out.trans b3; clear o3 b3 O1 B1)
    | (at_builtin; refine append_bytes rfl _ _ rfl w.heap.size (.slice q3 8 c3) (Crc.fourB n ++ Crc.fourB k) l rfl O3.out a c n rfl hn.out hc.out (ha.out.keep B3.out (Nat.le_refl _)) (by rw [hn.out, List.length_append, Crc.fourB_length, Crc.fourB_length]; omega) B3.out.size ?_; intro v' w4 h1 h2))
  go_ret2
  exact ⟨v', rfl, h1, B3.out.trans h2⟩

theorem frame_any (l : List UInt8) (a : Option Addr) (c : Nat) (w : World) (hle : l.length ≤ 4096) (ha : Lies w a l) (hc : a = none → c = 0) :
    Calls Try.prog 43 #[.slice a l.length c] w fun e w' => ∃ q c', e = .returned (.tuple #[.slice q (l.length + 8 : Nat) c', .int .i64 0]) ∧ Own w' w.heap.size (.slice q (l.length + 8 : Nat) c') (Crc.frame l) ∧ Below w.heap.size w w' := by
  refine (frame_at l a c l.length _ w rfl hle ha hc rfl).mono ?_
  rintro e w' ⟨v, rfl, h1, h2⟩
  have h1 : Own w' w.heap.size v (Crc.frame l) := h1
  obtain ⟨q, c', rfl, _⟩ := h1.shape
  rw [Crc.frame_length] at h1 ⊢
  exact ⟨q, c', rfl, h1, h2⟩

set_option maxHeartbeats 400000 in
theorem frame_long (a : Option Addr) (c n : Nat) (w : World) (hn : 4096 < (n : Int)) :
    Calls Try.prog 43 #[.slice a n c] w fun e w' => e = .returned (.tuple #[.slice none 0 0, .int .i64 1]) ∧ w' = w := by
  go_enter Try.func43, Try.ntmps43
  go_wp2_with fail
  go_ret2
  exact ⟨rfl, rfl⟩
/-- bytes behind an owned row, which stays where another row lies -/
theorem Own.stay {w w1 : World} {B B' : Nat} {v : Value} {l : List UInt8} (h : Own w B v l) (b : Below B' w w1) (hB : ∀ g, v.ownBlock = some g → g < B') : Own w1 B v l := by
  refine ⟨h.1, ?_⟩
  rcases h.2 with hn | ⟨g, cap, cur, rfl, hb, hgg, rest⟩
  · exact .inl hn
  · exact .inr ⟨g, cap, cur, rfl, hb, (b.block g (hB g rfl)).trans hgg, rest⟩
theorem own_lt {w : World} {B k : Nat} {g c : Nat} {l : List UInt8} (h : Own w B (.slice (some ⟨g, 0, none⟩) k c) l) : g < w.heap.size := (World.ownsRow.lt h g rfl).2

end Go.Proofs.Ytplcpjngpkghmaa

namespace Go.Proofs.Ytplcpjngpkghmaa
open Go.RowKit

theorem own_empty {w : World} {B : Nat} (hB : B ≤ w.heap.size) : Own (w.alloc (.cells #[] 5)) B (.slice (some ⟨w.heap.size, 0, none⟩) 0 0) [] :=
  ⟨rfl, .inr ⟨w.heap.size, 0, #[], rfl, hB, new0, Nat.le_refl _, by decide, rfl, rfl⟩⟩

theorem eql_some (ad : Addr) (n c : Nat) : ∀ w, (binOp .eql 31 (.slice (some ad) n c) (.slice none 0 0)).run Try.prog w = .ok (.bool false) w := fun _ => by kernel_rfl
theorem eql_none : ∀ w, (binOp .eql 31 (.slice none 0 0) (.slice none 0 0)).run Try.prog w = .ok (.bool true) w := fun _ => by kernel_rfl

set_option maxHeartbeats 400000 in
set_option maxRecDepth 100000 in
theorem bc_at (l : List UInt8) (ad : Addr) (c n : Nat) (w : World) (hn : Hid (l.length = n)) (hle : n ≤ 140737488355328) (ha : Hid (Lies w (some ad) l)) :
    Calls Try.prog 45 #[.slice (some ad) n c] w fun e w' => ∃ v, e = .returned v ∧ Own w' w.heap.size v l ∧ Below w.heap.size w w' := by
  have he := eql_some ad n c
  go_enter Try.func45, Try.ntmps45
  go_wp2_with (at_builtin; refine append_bytes (w := w.alloc (.cells #[] 5)) rfl _ _ rfl w.heap.size (.slice (some ⟨w.heap.size, 0, none⟩) 0 0) [] l rfl (own_empty (Nat.le_refl _)) (some ad) c n rfl hn.out (fun e => by cases e) (ha.out.keep ((Below.refl _ w).alloc (Nat.le_refl _) _) (Nat.le_refl _)) (by rw [hn.out]; simp; omega) (by simp) ?_; intro v' w4 h1 h2)
  go_ret
  exact ⟨v', rfl, h1, ((Below.refl _ w).alloc (Nat.le_refl _) _).trans h2⟩

set_option maxHeartbeats 400000 in
set_option maxRecDepth 100000 in
theorem bc_none (w : World) :
    Calls Try.prog 45 #[.slice none 0 0] w fun e w' => e = .returned (.slice none 0 0) ∧ w' = w := by
  have he := eql_none
  go_enter Try.func45, Try.ntmps45
  go_wp2_with fail
  go_ret
  exact ⟨rfl, rfl⟩

theorem bc_any (l : List UInt8) (a : Option Addr) (c : Nat) (w : World) (hle : l.length ≤ 140737488355328) (ha : Lies w a l) (hc : a = none → c = 0) :
    Calls Try.prog 45 #[.slice a l.length c] w fun e w' => ∃ q c', e = .returned (.slice q l.length c') ∧ Own w' w.heap.size (.slice q l.length c') l ∧ Below w.heap.size w w' := by
  cases a with
  | none =>
    obtain rfl : l = [] := by
      rcases ha with h | ⟨g, o, e, _⟩
      · exact h
      · cases e
    obtain rfl := hc rfl
    refine (bc_none w).mono ?_
    rintro e w' ⟨rfl, rfl⟩
    exact ⟨none, 0, rfl, Own.nil _ _, Below.refl _ _⟩
  | some ad =>
    refine (bc_at l ad c l.length w rfl hle ha).mono ?_
    rintro e w' ⟨v, rfl, h1, h2⟩
    obtain ⟨q, c', rfl, _⟩ := h1.shape
    exact ⟨q, c', rfl, h1, h2⟩

set_option maxHeartbeats 400000 in
theorem open_short (a : Option Addr) (c n : Nat) (w : World) (hn : (n : Int) < 8) :
    Calls Try.prog 77 #[.slice a n c] w fun e w' => e = .returned (.tuple #[.slice none 0 0, .slice none 0 0, .int .i64 12]) ∧ w' = w := by
  go_enter Try.func77, Try.ntmps77
  go_wp2_with fail
  go_ret3
  exact ⟨rfl, rfl⟩
set_option maxHeartbeats 1000000 in
theorem open_size (g o c n m : Nat) (w : World) (hn : 8 ≤ n) (hm : m < 4294967296) (h : 4096 < (m : Int) ∨ ((m : Int) ≤ 4096 ∧ (n : Int) - 8 < (m : Int)))
    (H : Hid (∀ w, Calls Try.prog 90 #[.slice (some ⟨g, o, none⟩) n c] w fun e w' => e = .returned (.int .u32 m) ∧ ∃ k, w' = w.drewN k)) :
    Calls Try.prog 77 #[.slice (some ⟨g, o, none⟩) n c] w fun e w' => e = .returned (.tuple #[.slice none 0 0, .slice none 0 0, .int .i64 12]) ∧ ∃ k, w' = w.drewN k := by
  rcases h with h | ⟨h, h'⟩
  all_goals go_enter Try.func77, Try.ntmps77
  all_goals go_wp2_with (go_at_call 90; refine (H.out _).mono ?_; rintro e w1 ⟨rfl, k1, rfl⟩)
  all_goals go_ret3
  all_goals exact ⟨rfl, _, rfl⟩

/-- where a piece from a place on lies -/
def cutA (a : Option Addr) (c lo : Nat) : Option Addr := if c = lo then a else a.map (·.add lo)

theorem elem22 : Try.prog.underlying 31 = some (.slice (Try.prog.elem 31)) := by kernel_rfl
theorem size5 : ∀ w, (sizeOf (Try.prog.elem 31)).run Try.prog w = .ok 1 w := fun w => by kernel_rfl
theorem sliced_eq (a : Option Addr) (l h c : Nat) : sliced a l h c 1 = .slice (cutA a c l) (h - l) (c - l) := by
  unfold sliced cutA; rw [Nat.mul_one]

theorem slice_l (a : Option Addr) (n c lo : Nat) (k : IntKind) (i : Int) (hi : (lo : Int) = i) (h : lo ≤ n) : ∀ w, (Instr.sliceAt 31 (.slice a n c) (some (.int k i)) none none).run Try.prog w = .ok (.slice (cutA a c lo) (n - lo) (c - lo)) w := fun w => by
  subst hi
  rw [run_sliceAt_slice (h := elem22), run_slice_l (ht := elem22) (h0 := by omega) (h1 := by omega), size5]
  simp only [Result.andThen, Int.toNat_natCast, sliced_eq]
theorem slice_h (a : Option Addr) (n c hi : Nat) (k : IntKind) (i : Int) (he : (hi : Int) = i) (h : hi ≤ c) : ∀ w, (Instr.sliceAt 31 (.slice a n c) none (some (.int k i)) none).run Try.prog w = .ok (.slice (cutA a c 0) hi c) w := fun w => by
  subst he
  rw [run_sliceAt_slice (h := elem22), run_slice_h (ht := elem22) (h0 := by omega) (h2 := by omega), size5]
  simp only [Result.andThen, Int.toNat_natCast, sliced_eq, Nat.sub_zero]
theorem slice_lh (a : Option Addr) (n c lo hi : Nat) (k k' : IntKind) (i j : Int) (hl : (lo : Int) = i) (he : (hi : Int) = j) (h1 : lo ≤ hi) (h : hi ≤ c) : ∀ w, (Instr.sliceAt 31 (.slice a n c) (some (.int k i)) (some (.int k' j)) none).run Try.prog w = .ok (.slice (cutA a c lo) (hi - lo) (c - lo)) w := fun w => by
  subst hl he
  rw [run_sliceAt_slice (h := elem22), run_slice_lh (ht := elem22) (h0 := by omega) (h1 := by omega) (h2 := by omega), size5]
  simp only [Result.andThen, Int.toNat_natCast, sliced_eq]

theorem fcut_none {a : Option Addr} {c lo : Nat} (h : a = none → c = 0) : cutA a c lo = none → c - lo = 0 := by
  intro e
  unfold cutA at e
  split at e
  · omega
  · cases a with
    | none => rw [h rfl]; omega
    | some ad => cases e

theorem lies_cut {w : World} {a : Option Addr} {l : List UInt8} {c lo : Nat} (h : Lies w a l) (hl : l.length ≤ c) : Lies w (cutA a c lo) (l.drop lo) := by
  unfold cutA
  split
  · refine .inl (List.drop_eq_nil_of_le (by omega))
  · rcases h with rfl | ⟨g, o, rfl, h⟩
    · exact .inl (by simp)
    · refine .inr ⟨g, o + lo, by rw [Option.map_some, Addr.add_lit], fun k x hx => ?_⟩
      rw [List.getElem?_drop] at hx
      have := h (lo + k) x hx
      rwa [← Nat.add_assoc] at this
theorem lies_take {w : World} {a : Option Addr} {l : List UInt8} (n : Nat) (h : Lies w a l) : Lies w a (l.take n) := by
  rcases h with rfl | ⟨g, o, rfl, h⟩
  · exact .inl (by simp)
  · refine .inr ⟨g, o, rfl, fun k x hx => h k x ?_⟩
    rw [List.getElem?_take] at hx
    split at hx
    · exact hx
    · cases hx
theorem lies_heap {w w' : World} {a : Option Addr} {l : List UInt8} (h : Lies w a l) (e : w'.heap = w.heap) : Lies w' a l := by
  rcases h with rfl | ⟨g, o, rfl, h⟩
  · exact .inl rfl
  · exact .inr ⟨g, o, rfl, fun k x hx => by rw [← h k x hx]; simp only [World.cell?, e]⟩

theorem below_heap {w w' : World} (n : Nat) (h : w' = w.drewN n) : Below w.heap.size w w' := by subst h; exact below_drewN (Below.refl _ _) n

set_option maxHeartbeats 1000000 in
theorem open_bad (a : Option Addr) (c n m k r : Nat) (w : World) (hn : 8 ≤ n) (hc : n ≤ c) (hm : m ≤ 4096) (hmn : m + 8 ≤ n)
    (H1 : Hid (∀ w', w'.heap = w.heap → Calls Try.prog 90 #[.slice a n c] w' fun e w'' => e = .returned (.int .u32 m) ∧ ∃ k, w'' = w'.drewN k))
    (H2 : Hid (∀ w', w'.heap = w.heap → Calls Try.prog 90 #[.slice (cutA a c 4) (n - 4) (c - 4)] w' fun e w'' => e = .returned (.int .u32 k) ∧ ∃ k, w'' = w'.drewN k))
    (H3 : Hid (∀ w', w'.heap = w.heap → Calls Try.prog 58 #[.slice (cutA a c 0) 4 c, .slice (cutA (cutA a c 8) (c - 8) 0) m (c - 8)] w' fun e w'' => e = .returned (.int .u32 r) ∧ w'' = w'))
    (hkr : ((k : Int) != (r : Int)) = true) :
    Calls Try.prog 77 #[.slice a n c] w fun e w' => e = .returned (.tuple #[.slice none 0 0, .slice none 0 0, .int .i64 12]) ∧ Below w.heap.size w w' := by
  have s1 := slice_l a n c 8 .i64 8 rfl (by omega)
  have s2 := slice_l a n c 4 .i64 4 rfl (by omega)
  have s3 := slice_h a n c 4 .i64 4 rfl (by omega)
  have s4 := slice_h (cutA a c 8) (n - 8) (c - 8) m .u32 m rfl (by omega)
  have s5 := slice_l (cutA a c 8) (n - 8) (c - 8) m .u32 m rfl (by omega)
  have hn8 : decide ((n : Int) < 8) = false := decide_eq_false (by omega)
  have hm8 : decide ((4096 : Int) < (m : Int)) = false := decide_eq_false (by omega)
  have hm9 : decide (((n - 8 : Nat) : Int) < (m : Int)) = false := decide_eq_false (by omega)
  go_enter Try.func77, Try.ntmps77
  go_wp2_with (go_at_call 90; refine (H1.out _ rfl).mono ?_; rintro e w1 ⟨rfl, k1, rfl⟩)
  go_quiet (fail)
  have E2 : Hid (((w.drewN k1).drewN nq).heap = w.heap) := (rfl : w.heap = w.heap)
  have B2 : Hid (Below w.heap.size w ((w.drewN k1).drewN nq)) := below_drewN (below_drewN (Below.refl _ _) _) _
  generalize (w.drewN k1).drewN nq = w2 at *
  go_wp2_with fail
  go_quiet (first | (go_at_call 90; exact Calls.quiet_of (H2.out _ E2.out)) | (go_at_call 58; exact Calls.quiet_of_same (H3.out _ E2.out)))
  go_wp2_with fail
  go_ret3
  exact ⟨rfl, below_drewN B2.out _⟩

set_option maxHeartbeats 1000000 in
theorem open_good (a : Option Addr) (c n m k : Nat) (x y : List UInt8) (w : World) (hn : 8 ≤ n) (hc : n ≤ c) (hm : m ≤ 4096) (hmn : m + 8 ≤ n)
    (H1 : Hid (∀ w', w'.heap = w.heap → Calls Try.prog 90 #[.slice a n c] w' fun e w'' => e = .returned (.int .u32 m) ∧ ∃ k, w'' = w'.drewN k))
    (H2 : Hid (∀ w', w'.heap = w.heap → Calls Try.prog 90 #[.slice (cutA a c 4) (n - 4) (c - 4)] w' fun e w'' => e = .returned (.int .u32 k) ∧ ∃ k, w'' = w'.drewN k))
    (H3 : Hid (∀ w', w'.heap = w.heap → Calls Try.prog 58 #[.slice (cutA a c 0) 4 c, .slice (cutA (cutA a c 8) (c - 8) 0) m (c - 8)] w' fun e w'' => e = .returned (.int .u32 k) ∧ w'' = w'))
    (H4 : Hid (∀ w', Below w.heap.size w w' → Calls Try.prog 45 #[.slice (cutA (cutA a c 8) (c - 8) 0) m (c - 8)] w' fun e w'' => ∃ q c', e = .returned (.slice q m c') ∧ Own w'' w'.heap.size (.slice q m c') x ∧ Below w'.heap.size w' w''))
    (H5 : Hid (∀ w', Below w.heap.size w w' → Calls Try.prog 45 #[.slice (cutA (cutA a c 8) (c - 8) m) (n - 8 - m) (c - 8 - m)] w' fun e w'' => ∃ q c', e = .returned (.slice q (n - 8 - m) c') ∧ Own w'' w'.heap.size (.slice q (n - 8 - m) c') y ∧ Below w'.heap.size w' w'')) :
    Calls Try.prog 77 #[.slice a n c] w fun e w' => ∃ q c' q' c'', e = .returned (.tuple #[.slice q m c', .slice q' (n - 8 - m) c'', .int .i64 0]) ∧ Own w' w.heap.size (.slice q m c') x ∧ Own w' w.heap.size (.slice q' (n - 8 - m) c'') y ∧ (∀ g g', (Value.slice q m c').ownBlock = some g → (Value.slice q' (n - 8 - m) c'').ownBlock = some g' → g ≠ g') ∧ Below w.heap.size w w' := by
  have s1 := slice_l a n c 8 .i64 8 rfl (by omega)
  have s2 := slice_l a n c 4 .i64 4 rfl (by omega)
  have s3 := slice_h a n c 4 .i64 4 rfl (by omega)
  have s4 := slice_h (cutA a c 8) (n - 8) (c - 8) m .u32 m rfl (by omega)
  have s5 := slice_l (cutA a c 8) (n - 8) (c - 8) m .u32 m rfl (by omega)
  have hn8 : decide ((n : Int) < 8) = false := decide_eq_false (by omega)
  have hm8 : decide ((4096 : Int) < (m : Int)) = false := decide_eq_false (by omega)
  have hm9 : decide (((n - 8 : Nat) : Int) < (m : Int)) = false := decide_eq_false (by omega)
  go_enter Try.func77, Try.ntmps77
  go_wp2_with (go_at_call 90; refine (H1.out _ rfl).mono ?_; rintro e w1 ⟨rfl, k1, rfl⟩)
  go_quiet (fail)
  have E2 : Hid (((w.drewN k1).drewN nq).heap = w.heap) := (rfl : w.heap = w.heap)
  have B2 : Hid (Below w.heap.size w ((w.drewN k1).drewN nq)) := below_drewN (below_drewN (Below.refl _ _) _) _
  generalize (w.drewN k1).drewN nq = w2 at *
  go_wp2_with fail
  go_quiet (first | (go_at_call 90; exact Calls.quiet_of (H2.out _ E2.out)) | (go_at_call 58; exact Calls.quiet_of_same (H3.out _ E2.out)))
  have B3 : Hid (Below w.heap.size w (w2.drewN nq)) := below_drewN B2.out _
  generalize w2.drewN nq = w3 at *
  go_wp2_with fail
  refine (H4.out _ B3.out).mono ?_; rintro e w4 ⟨q4, c4, rfl, o4, b4⟩; have O4 : Hid (Own w4 w3.heap.size (.slice q4 m c4) x) := o4; have B4 : Hid (Below w3.heap.size w3 w4) := b4; have D4 : Hid (Below w.heap.size w w4) := below_from B3.out b4 B3.out.size; clear o4 b4
  go_wp2_with fail
  refine (H5.out _ D4.out).mono ?_; rintro e w5 ⟨q5, c5, rfl, o5, b5⟩; have O5 : Hid (Own w5 w4.heap.size (.slice q5 (n - 8 - m) c5) y) := o5; have B5 : Hid (Below w4.heap.size w4 w5) := b5; clear o5 b5
  go_wp2_with fail
  go_ret3
  have hs3 := B3.out.size
  have hs4 := D4.out.size
  refine ⟨q4, c4, q5, c5, rfl, (O4.out.keep B5.out).low hs3, O5.out.low hs4, fun g g' h1 h2 => ?_, below_from D4.out B5.out hs4⟩
  have k1 := (World.ownsRow.lt O4.out g h1).2
  have k2 := (World.ownsRow.lt O5.out g' h2).1
  omega


/-- what Open answers -/
def openAns (w w' : World) (l : List UInt8) (e : Ending) : Prop :=
  match Crc.opened l with
  | none => e = .returned (.tuple #[.slice none 0 0, .slice none 0 0, .int .i64 12])
  | some (x, y) => ∃ q c' q' c'', e = .returned (.tuple #[.slice q x.length c', .slice q' y.length c'', .int .i64 0]) ∧ Own w' w.heap.size (.slice q x.length c') x ∧ Own w' w.heap.size (.slice q' y.length c'') y ∧ (∀ g g', (Value.slice q x.length c').ownBlock = some g → (Value.slice q' y.length c'').ownBlock = some g' → g ≠ g')

theorem four_cut {w : World} {a : Option Addr} {l : List UInt8} {n c : Nat} (h4 : 4 ≤ l.length) (hn : l.length ≤ n) (ha : Lies w a l) :
    ∀ w', w'.heap = w.heap → Calls Try.prog 90 #[.slice a n c] w' fun e w'' => e = .returned (.int .u32 (Crc.fourN l)) ∧ ∃ k, w'' = w'.drewN k := by
  intro w' hw
  rcases lies_heap ha hw with rfl | ⟨g, o, rfl, h⟩
  · simp at h4
  · match l, h4 with
    | a :: b :: c' :: d :: l, _ => exact four_any a b c' d l g o n c w' (by simp at hn; omega) h
    | [_], h | [_, _], h | [_, _, _], h => simp at h

set_option maxHeartbeats 1000000 in
theorem open_size' (a : Option Addr) (c n m : Nat) (w : World) (hn : 8 ≤ n) (hm : m < 4294967296) (h : 4096 < (m : Int) ∨ ((m : Int) ≤ 4096 ∧ ((n - 8 : Nat) : Int) < (m : Int)))
    (H : Hid (∀ w', w'.heap = w.heap → Calls Try.prog 90 #[.slice a n c] w' fun e w'' => e = .returned (.int .u32 m) ∧ ∃ k, w'' = w'.drewN k)) :
    Calls Try.prog 77 #[.slice a n c] w fun e w' => e = .returned (.tuple #[.slice none 0 0, .slice none 0 0, .int .i64 12]) ∧ ∃ k, w' = w.drewN k := by
  have s1 := slice_l a n c 8 .i64 8 rfl (by omega)
  rcases h with h | ⟨h, h'⟩
  all_goals go_enter Try.func77, Try.ntmps77
  all_goals go_wp2_with (go_at_call 90; refine (H.out _ rfl).mono ?_; rintro e w1 ⟨rfl, k1, rfl⟩)
  all_goals go_ret3
  all_goals exact ⟨rfl, _, rfl⟩

theorem open_any (l : List UInt8) (a : Option Addr) (c : Nat) (w : World) (ha : Lies w a l) (hc : a = none → c = 0) (hlc : l.length ≤ c) (hl : l.length ≤ 140737488355328) :
    Calls Try.prog 77 #[.slice a l.length c] w fun e w' => openAns w w' l e ∧ Below w.heap.size w w' := by
  by_cases h8 : l.length < 8
  · have e : Crc.opened l = none := by unfold Crc.opened; rw [if_pos h8]
    refine (open_short a c l.length w (by omega)).mono ?_
    rintro r w' ⟨rfl, rfl⟩
    refine ⟨?_, Below.refl _ _⟩
    unfold openAns; rw [e]
  have H1 := four_cut (n := l.length) (c := c) (by omega) (Nat.le_refl _) ha
  have hm := Crc.fourN_lt l
  by_cases hs : 4096 < Crc.fourN l ∨ l.length - 8 < Crc.fourN l
  · have e : Crc.opened l = none := by unfold Crc.opened; rw [if_neg h8, if_pos hs]
    refine (open_size' a c l.length (Crc.fourN l) w (by omega) hm (by omega) H1).mono ?_
    rintro r w' ⟨rfl, k, rfl⟩
    refine ⟨?_, below_drewN (Below.refl _ _) _⟩
    unfold openAns; rw [e]
  have hO : Crc.opened l = if Crc.fourN (l.drop 4) = Crc.crc (l.take 4 ++ (l.drop 8).take (Crc.fourN l)) then some ((l.drop 8).take (Crc.fourN l), (l.drop 8).drop (Crc.fourN l)) else none := by
    unfold Crc.opened; rw [if_neg h8, if_neg hs]
  generalize Crc.fourN l = m at *
  have d4 : (l.drop 4).length = l.length - 4 := List.length_drop ..
  have d8 : (l.drop 8).length = l.length - 8 := List.length_drop ..
  have H2 := four_cut (n := l.length - 4) (c := c - 4) (by omega) (Nat.le_of_eq d4) (lies_cut (lo := 4) ha hlc)
  have t4 : (l.take 4).length = 4 := by rw [List.length_take]; omega
  have tx : ((l.drop 8).take m).length = m := by rw [List.length_take]; omega
  have ty : ((l.drop 8).drop m).length = l.length - 8 - m := by rw [List.length_drop, d8]
  have L8 : Lies w (cutA a c 8) (l.drop 8) := lies_cut (lo := 8) ha hlc
  have Lx : Lies w (cutA (cutA a c 8) (c - 8) 0) ((l.drop 8).take m) := lies_take m (by have := lies_cut (c := c - 8) (lo := 0) L8 (by omega); rwa [List.drop_zero] at this)
  have Ly : Lies w (cutA (cutA a c 8) (c - 8) m) ((l.drop 8).drop m) := lies_cut (c := c - 8) L8 (by omega)
  have L0 : Lies w (cutA a c 0) (l.take 4) := lies_take 4 (by have := lies_cut (c := c) (lo := 0) ha hlc; rwa [List.drop_zero] at this)
  have H3 : ∀ w', w'.heap = w.heap → Calls Try.prog 58 #[.slice (cutA a c 0) 4 c, .slice (cutA (cutA a c 8) (c - 8) 0) m (c - 8)] w' fun e w'' => e = .returned (.int .u32 (Crc.crc (l.take 4 ++ (l.drop 8).take m))) ∧ w'' = w' := by
    intro w' hw
    have := check_any (l.take 4) ((l.drop 8).take m) (cutA a c 0) (cutA (cutA a c 8) (c - 8) 0) c (c - 8) w' (by omega) (by omega) (lies_heap L0 hw) (lies_heap Lx hw)
    rwa [t4, tx] at this
  by_cases hk : Crc.fourN (l.drop 4) = Crc.crc (l.take 4 ++ (l.drop 8).take m)
  · rw [if_pos hk] at hO
    rw [← hk] at H3
    have H4 : ∀ w', Below w.heap.size w w' → Calls Try.prog 45 #[.slice (cutA (cutA a c 8) (c - 8) 0) m (c - 8)] w' fun e w'' => ∃ q c', e = .returned (.slice q m c') ∧ Own w'' w'.heap.size (.slice q m c') ((l.drop 8).take m) ∧ Below w'.heap.size w' w'' := by
      intro w' hb
      have := bc_any ((l.drop 8).take m) (cutA (cutA a c 8) (c - 8) 0) (c - 8) w' (by omega) (Lx.keep hb (Nat.le_refl _)) (by have := fcut_none (a := cutA a c 8) (c := c - 8) (lo := 0) (fcut_none hc); simpa using this)
      rwa [tx] at this
    have H5 : ∀ w', Below w.heap.size w w' → Calls Try.prog 45 #[.slice (cutA (cutA a c 8) (c - 8) m) (l.length - 8 - m) (c - 8 - m)] w' fun e w'' => ∃ q c', e = .returned (.slice q (l.length - 8 - m) c') ∧ Own w'' w'.heap.size (.slice q (l.length - 8 - m) c') ((l.drop 8).drop m) ∧ Below w'.heap.size w' w'' := by
      intro w' hb
      have := bc_any ((l.drop 8).drop m) (cutA (cutA a c 8) (c - 8) m) (c - 8 - m) w' (by omega) (Ly.keep hb (Nat.le_refl _)) (fcut_none (a := cutA a c 8) (c := c - 8) (lo := m) (fcut_none hc))
      rwa [ty] at this
    refine (open_good a c l.length m _ ((l.drop 8).take m) ((l.drop 8).drop m) w (by omega) hlc (by omega) (by omega) H1 H2 H3 H4 H5).mono ?_
    rintro e w' ⟨q, c', q', c'', rfl, o1, o2, o3, b⟩
    refine ⟨?_, b⟩
    unfold openAns
    rw [hO]
    simp only []
    rw [tx, ty]
    exact ⟨q, c', q', c'', rfl, o1, o2, o3⟩
  · rw [if_neg hk] at hO
    refine (open_bad a c l.length m _ _ w (by omega) hlc (by omega) (by omega) H1 H2 H3 (by simp only [bne_iff_ne, ne_eq, Int.natCast_inj]; exact hk)).mono ?_
    rintro e w' ⟨rfl, b⟩
    refine ⟨?_, b⟩
    unfold openAns; rw [hO]

end Go.Proofs.Ytplcpjngpkghmaa
