/-
  The journal's numberIn.
-/
import Derived.Test.YtplcpjngpkghmaaJl
import Derived.Laws.BitsAllLaws
namespace Go.Proofs.Ytplcpjngpkghmaa
open Go.RowKit Go.Maps

theorem wrap63 (n : Nat) (h : n < 9223372036854775808) : IntKind.i64.wrap (n : Int) = (n : Int) := by
  have e : (n : Int) % 2 ^ 64 = n := Int.emod_eq_of_lt (by omega) (by omega)
  unfold IntKind.wrap
  simp only [IntKind.bits, IntKind.signed, e]
  rw [if_neg]
  simp
  omega
theorem i64_or_nat (a b : Nat) (ha : a < 9223372036854775808) (hb : b < 9223372036854775808) : bits .or .i64 (a : Int) (b : Int) = ((a ||| b : Nat) : Int) := by
  have hx : a ||| b < 2 ^ 63 := Nat.or_lt_two_pow (by omega) (by omega)
  show IntKind.i64.wrap ((BitVec.ofInt 64 (a : Int) ||| BitVec.ofInt 64 (b : Int)).toNat : Int) = _
  rw [BitVec.toNat_or, ofInt_u64 a (by omega), ofInt_u64 b (by omega)]
  exact wrap63 _ (by omega)
theorem or64 (k : Nat) (m : Int) (a b : Nat) (hm : m = ((2 ^ k : Nat) : Int)) (ha : a < 2 ^ k) (hs : a + b * 2 ^ k < 9223372036854775808) : bits .or .i64 (a : Int) ((b : Int) * m) = ((a + b * 2 ^ k : Nat) : Int) := by
  rw [hm, show ((b : Int) * ((2 ^ k : Nat) : Int)) = ((b * 2 ^ k : Nat) : Int) by rw [Int.natCast_mul], i64_or_nat _ _ (by omega) (by omega), ← join (k := k) b ha]
theorem or640 (a : Nat) (ha : a < 256) : bits .or .i64 0 (a : Int) = (a : Int) := by
  have := i64_or_nat 0 a (by omega) (by omega)
  rw [Nat.zero_or] at this
  exact this
theorem in4 (a b c d : UInt8) : bits .or .i64 (bits .or .i64 (bits .or .i64 (bits .or .i64 0 (a.toNat : Int)) ((b.toNat : Int) * 256)) ((c.toNat : Int) * 65536)) ((d.toNat : Int) * 16777216) = ((a.toNat + b.toNat * 256 + c.toNat * 65536 + d.toNat * 16777216 : Nat) : Int) := by
  have := a.toNat_lt
  have := b.toNat_lt
  have := c.toNat_lt
  have := d.toNat_lt
  rw [or640 _ (by omega), or64 8 256 _ _ rfl (by omega) (by omega), or64 16 65536 _ _ rfl (by omega) (by omega), or64 24 16777216 _ _ rfl (by omega) (by omega)]
theorem in8 (a b c d e f g h : UInt8) (hh : h.toNat < 128) : bits .or .i64 (bits .or .i64 (bits .or .i64 (bits .or .i64 (bits .or .i64 (bits .or .i64 (bits .or .i64 (bits .or .i64 0 (a.toNat : Int)) ((b.toNat : Int) * 256)) ((c.toNat : Int) * 65536)) ((d.toNat : Int) * 16777216)) ((e.toNat : Int) * 4294967296)) ((f.toNat : Int) * 1099511627776)) ((g.toNat : Int) * 281474976710656)) ((h.toNat : Int) * 72057594037927936) = ((a.toNat + b.toNat * 256 + c.toNat * 65536 + d.toNat * 16777216 + e.toNat * 4294967296 + f.toNat * 1099511627776 + g.toNat * 281474976710656 + h.toNat * 72057594037927936 : Nat) : Int) := by
  have := a.toNat_lt
  have := b.toNat_lt
  have := c.toNat_lt
  have := d.toNat_lt
  have := e.toNat_lt
  have := f.toNat_lt
  have := g.toNat_lt
  rw [or640 _ (by omega), or64 8 256 _ _ rfl (by omega) (by omega), or64 16 65536 _ _ rfl (by omega) (by omega), or64 24 16777216 _ _ rfl (by omega) (by omega), or64 32 4294967296 _ _ rfl (by omega) (by omega), or64 40 1099511627776 _ _ rfl (by omega) (by omega), or64 48 281474976710656 _ _ rfl (by omega) (by omega), or64 56 72057594037927936 _ _ rfl (by omega) (by omega)]
set_option maxHeartbeats 1000000 in
theorem numIn4 (a b c d : UInt8) (g o cap : Nat) (w : World) (hr : Hid (Row w g o [a, b, c, d])) :
    Calls Try.prog 71 #[.slice (some ⟨g, o, none⟩) 4 cap] w fun e w' => e = .returned (.int .i64 ((a.toNat + b.toNat * 256 + c.toNat * 65536 + d.toNat * 16777216 : Nat) : Int)) ∧ w' = w := by
  have h0 := hr.out 0 a rfl
  have h1 := hr.out 1 b rfl
  have h2 := hr.out 2 c rfl
  have h3 := hr.out 3 d rfl
  rw [Nat.add_zero] at h0
  have i0 := u8_bd a
  have i1 := u8_bd b
  have i2 := u8_bd c
  have i3 := u8_bd d
  go_enter Try.func71, Try.ntmps71
  go_wp2_with fail
  go_rounds 5
  go_ret
  refine ⟨?_, rfl⟩
  rw [← in4]
  rfl
set_option maxHeartbeats 1000000 in
theorem numIn8 (a b c d a' b' c' d' : UInt8) (g o cap : Nat) (w : World) (hd : (d'.toNat : Int) ≤ 127) (hr : Hid (Row w g o [a, b, c, d, a', b', c', d'])) :
    Calls Try.prog 71 #[.slice (some ⟨g, o, none⟩) 8 cap] w fun e w' => e = .returned (.int .i64 ((a.toNat + b.toNat * 256 + c.toNat * 65536 + d.toNat * 16777216 + a'.toNat * 4294967296 + b'.toNat * 1099511627776 + c'.toNat * 281474976710656 + d'.toNat * 72057594037927936 : Nat) : Int)) ∧ w' = w := by
  have h0 := hr.out 0 a rfl
  have h1 := hr.out 1 b rfl
  have h2 := hr.out 2 c rfl
  have h3 := hr.out 3 d rfl
  have h4 := hr.out 4 a' rfl
  have h5 := hr.out 5 b' rfl
  have h6 := hr.out 6 c' rfl
  have h7 := hr.out 7 d' rfl
  rw [Nat.add_zero] at h0
  have i0 := u8_bd a
  have i1 := u8_bd b
  have i2 := u8_bd c
  have i3 := u8_bd d
  have i4 := u8_bd a'
  have i5 := u8_bd b'
  have i6 := u8_bd c'
  go_enter Try.func71, Try.ntmps71
  go_wp2_with fail
  go_rounds 9
  go_ret
  refine ⟨?_, rfl⟩
  rw [← in8 _ _ _ _ _ _ _ _ (by omega)]
  rfl
theorem num8_back {n : Nat} (h : n < 9223372036854775808) (g o cap : Nat) (w : World) (hr : Row w g o (num8 n)) :
    Calls Try.prog 71 #[.slice (some ⟨g, o, none⟩) 8 cap] w fun e w' => e = .returned (.int .i64 (n : Int)) ∧ w' = w := by
  have h7 : ((UInt8.ofNat (n / 72057594037927936)).toNat : Int) ≤ 127 := by rw [UInt8.toNat_ofNat']; omega
  have := numIn8 _ _ _ _ _ _ _ _ g o cap w h7 hr
  simp only [UInt8.toNat_ofNat'] at this
  rw [show (n % 2 ^ 8 + n / 256 % 2 ^ 8 * 256 + n / 65536 % 2 ^ 8 * 65536 + n / 16777216 % 2 ^ 8 * 16777216 + n / 4294967296 % 2 ^ 8 * 4294967296 + n / 1099511627776 % 2 ^ 8 * 1099511627776 + n / 281474976710656 % 2 ^ 8 * 281474976710656 + n / 72057594037927936 % 2 ^ 8 * 72057594037927936 : Nat) = n by omega] at this
  exact this
theorem four_back {n : Nat} (h : n < 4294967296) (g o cap : Nat) (w : World) (hr : Row w g o (Crc.fourB n)) :
    Calls Try.prog 71 #[.slice (some ⟨g, o, none⟩) 4 cap] w fun e w' => e = .returned (.int .i64 (n : Int)) ∧ w' = w := by
  have := numIn4 _ _ _ _ g o cap w hr
  simp only [UInt8.toNat_ofNat'] at this
  rw [show (n % 2 ^ 8 + n / 256 % 2 ^ 8 * 256 + n / 65536 % 2 ^ 8 * 65536 + n / 16777216 % 2 ^ 8 * 16777216 : Nat) = n by omega] at this
  exact this
end Go.Proofs.Ytplcpjngpkghmaa
