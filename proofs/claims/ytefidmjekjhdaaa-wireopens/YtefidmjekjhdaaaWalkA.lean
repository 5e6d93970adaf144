/-
  The contracts of checkOn and check.
-/
import Derived.Test.YtefidmjekjhdaaaRows
import Derived.Test.YtefidmjekjhdaaaCrc
import Derived.WalkKit
import Derived.WalkSpells
import Derived.Handy
import Derived.BigQuiet
import Derived.Outline
import Derived.Sort.AtCall
import Derived.Deep.QuietTactic
namespace Go.Proofs.Ytefidmjekjhdaaa
open Go.RowKit

/-- bytes, one behind the other -/
def Row (w : World) (g o : Nat) (l : List UInt8) : Prop := ∀ (k : Nat) (x : UInt8), l[k]? = some x → w.cell? ⟨g, o + k, none⟩ = some (.int .u8 x.toNat)
def Lies (w : World) (a : Option Addr) (l : List UInt8) : Prop := l = [] ∨ ∃ g o, a = some ⟨g, o, none⟩ ∧ Row w g o l

theorem Row.keep {w w1 : World} {g o B : Nat} {l : List UInt8} (b : Below B w w1) (hB : w.heap.size ≤ B) (h : Row w g o l) : Row w1 g o l := fun k x hx => by
  have h0 := h k x hx
  exact (b.cell (Nat.lt_of_lt_of_le (block_lt_of_cell h0) hB)).trans h0
theorem Lies.keep {w w1 : World} {a : Option Addr} {B : Nat} {l : List UInt8} (b : Below B w w1) (hB : w.heap.size ≤ B) (h : Lies w a l) : Lies w1 a l := by
  rcases h with h | ⟨g, o, e, h⟩
  · exact .inl h
  · exact .inr ⟨g, o, e, h.keep b hB⟩

theorem take_snoc {l : List UInt8} {k : Nat} {x : UInt8} (h : l[k]? = some x) : l.take (k + 1) = l.take k ++ [x] := by
  obtain ⟨hk, rfl⟩ := List.getElem?_eq_some_iff.1 h
  exact List.take_succ_eq_append_getElem hk

theorem u8_bd (x : UInt8) : (x.toNat : Int) ≤ 255 := by have := x.toNat_lt; omega

theorem xor_nat (a b : Nat) (ha : a < 4294967296) (hb : b < 4294967296) : bits .xor .u32 (a : Int) (b : Int) = ((a ^^^ b : Nat) : Int) := u32_xor_nat a b ha hb

theorem and_one (v : Nat) (h : v < 4294967296) (r : Int) (hr : (v % 2 : Nat) = r) : bits .and .u32 (v : Int) 1 = r := by
  rw [u32_and _ _ (by omega) (by omega) (by omega) (by omega)]
  simp only [Int.toNat_natCast, Int.reduceToNat, Nat.and_one_is_mod]
  exact hr

set_option maxHeartbeats 1000000 in
theorem checkOn_some (l : List UInt8) (g o cap c n : Nat) (w : World) (hc : c < 4294967296) (hL : Hid (l.length = n)) (hn : n < 1152921504606846976) (hr : Hid (Row w g o l)) :
    Calls Try.prog 23 #[.int .u32 c, .slice (some ⟨g, o, none⟩) n cap] w fun e w' => e = .returned (.int .u32 (Crc.on c l)) ∧ w' = w := by
  go_enter Try.func23, Try.ntmps23
  go_wp2_with fail
  go_loop [0, 10] (fun s i => ∃ k : Nat, k ≤ n ∧ i = .int .i64 k ∧ s = .int .u32 (Crc.on c (l.take k))) (fun _ i => n - (intOf i).toNat)
  case atStart => exact ⟨0, Nat.zero_le _, rfl, by rw [List.take_zero, Crc.on_nil]⟩
  case round =>
    obtain ⟨k, hk, rfl, rfl⟩ := hrel
    by_cases hlt : k < n
    · obtain ⟨x, hx⟩ : ∃ x, l[k]? = some x := ⟨l[k]'(by have := hL.out; omega), List.getElem?_eq_getElem _⟩
      have h0 := hr.out k x hx
      have HS : Hid (Crc.on c (l.take (k + 1)) = Crc.byte (Crc.on c (l.take k)) x.toNat) := by rw [take_snoc hx, Crc.on_snoc]; rfl
      have hb := u8_bd x
      have hs := Crc.on_lt (l.take k) hc
      clear hx
      generalize Crc.on c (l.take k) = s at *
      generalize hs' : Crc.on c (l.take (k + 1)) = s' at *
      have HS' : Hid (Crc.on c (l.take (k + 1)) = s') := hs'
      clear hs'
      have hxt := xor_nat s x.toNat hs (by omega)
      have ht : s ^^^ x.toNat < 4294967296 := Crc.xor_lt hs (by omega)
      have HT : Hid (s' = Crc.bits 8 (s ^^^ x.toNat)) := HS.out
      clear HS
      generalize s ^^^ x.toNat = t at *
      go_wp2_with fail
      clear h0 hxt
      go_loop [0, 18] (fun s i => ∃ j : Nat, j ≤ 8 ∧ i = .int .i64 j ∧ s = .int .u32 (Crc.bits j t)) (fun _ i => 8 - (intOf i).toNat)
      case atStart => exact ⟨0, Nat.zero_le _, rfl, by rw [Crc.bits]⟩
      case round =>
        obtain ⟨j, hj, rfl, rfl⟩ := hrel
        by_cases h8 : j < 8
        · have HB : Hid (Crc.bits (j + 1) t = Crc.bit (Crc.bits j t)) := by rw [Crc.bits]; exact rfl
          have hv := Crc.bits_lt ht j
          generalize Crc.bits j t = v at *
          by_cases hodd : v % 2 = 1
          · have ha : bits .and .u32 (v : Int) 1 = 1 := and_one v hv 1 (by omega)
            have HV : Hid (Crc.bits (j + 1) t = (v / 2) ^^^ 3988292384) := by rw [HB.out, Crc.bit, if_pos hodd]; exact rfl
            have hp : bits .xor .u32 ((v : Int) / 2) 3988292384 = (((v / 2) ^^^ 3988292384 : Nat) : Int) := xor_nat (v / 2) 3988292384 (by omega) (by omega)
            generalize (v / 2) ^^^ 3988292384 = m at *
            clear hodd
            go_wp2_with fail
            refine ⟨⟨j + 1, by omega, by go_num, ?_⟩, ?_⟩
            · rw [HV.out]
            · simp [intOf]; omega
          · have ha : bits .and .u32 (v : Int) 1 = 0 := and_one v hv 0 (by omega)
            have HV : Hid (Crc.bits (j + 1) t = v / 2) := by rw [HB.out, Crc.bit, if_neg hodd]; exact rfl
            clear hodd
            go_wp2_with fail
            refine ⟨⟨j + 1, by omega, by go_num, ?_⟩, ?_⟩
            · rw [HV.out]; rfl
            · simp [intOf]; omega
        · have e8 : j = 8 := by omega
          subst e8
          rw [← HT.out]
          go_wp2_with fail
          go_round
          case rel => exact ⟨k + 1, by omega, by go_num, by rw [HS'.out]⟩
          case measure => simp [intOf]; omega
    · have HA : Hid (Crc.on c (l.take k) = Crc.on c l) := by rw [List.take_of_length_le (by have := hL.out; omega)]; exact rfl
      go_wp2_with fail
      go_ret
      exact ⟨by rw [← HA.out]; rfl, rfl⟩

set_option maxHeartbeats 400000 in
theorem checkOn_none (a : Option Addr) (cap c : Nat) (w : World) :
    Calls Try.prog 23 #[.int .u32 c, .slice a 0 cap] w fun e w' => e = .returned (.int .u32 c) ∧ w' = w := by
  go_enter Try.func23, Try.ntmps23
  go_wp2_with fail
  go_rounds 1
  go_ret
  exact ⟨rfl, rfl⟩

theorem checkOn_any (l : List UInt8) (a : Option Addr) (cap c : Nat) (w : World) (hc : c < 4294967296) (hn : l.length < 1152921504606846976) (h : Lies w a l) :
    Calls Try.prog 23 #[.int .u32 c, .slice a l.length cap] w fun e w' => e = .returned (.int .u32 (Crc.on c l)) ∧ w' = w := by
  rcases h with rfl | ⟨g, o, rfl, h⟩
  · rw [Crc.on_nil]; exact checkOn_none a cap c w
  · exact checkOn_some l g o cap c l.length w hc rfl hn h

set_option maxHeartbeats 400000 in
theorem check_at (s t r : Nat) (v u : Value) (w : World) (hr : bits .xor .u32 4294967295 (t : Int) = (r : Int))
    (H1 : Hid (Calls Try.prog 23 #[.int .u32 4294967295, v] w fun e w' => e = .returned (.int .u32 s) ∧ w' = w))
    (H2 : Hid (Calls Try.prog 23 #[.int .u32 s, u] w fun e w' => e = .returned (.int .u32 t) ∧ w' = w)) :
    Calls Try.prog 15 #[v, u] w fun e w' => e = .returned (.int .u32 r) ∧ w' = w := by
  have hm : IntKind.u32.max = 4294967295 := rfl
  go_enter Try.func15, Try.ntmps15
  go_wp2_with (first | (go_at_call_of 23 #[Value.int .u32 4294967295, v]; refine H1.out.mono ?_; rintro e w1 ⟨rfl, rfl⟩) | (go_at_call_of 23 #[Value.int .u32 (s : Int), u]; refine H2.out.mono ?_; rintro e w1 ⟨rfl, rfl⟩))
  go_ret
  exact ⟨rfl, rfl⟩

theorem check_any (l m : List UInt8) (a b : Option Addr) (c d : Nat) (w : World) (hl : l.length < 1152921504606846976) (hm : m.length < 1152921504606846976) (ha : Lies w a l) (hb : Lies w b m) :
    Calls Try.prog 15 #[.slice a l.length c, .slice b m.length d] w fun e w' => e = .returned (.int .u32 (Crc.crc (l ++ m))) ∧ w' = w := by
  have k1 := Crc.on_lt l (c := 4294967295) (by omega)
  have k2 := Crc.on_lt m k1
  refine check_at _ _ _ _ _ w ?_ (checkOn_any l a c 4294967295 w (by omega) hl ha) (checkOn_any m b d _ w k1 hm hb)
  rw [Crc.crc, Crc.on_append, Nat.xor_comm]
  exact xor_nat 4294967295 _ (by omega) k2

end Go.Proofs.Ytefidmjekjhdaaa
