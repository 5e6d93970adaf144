/-
  The contracts of checkOn, check, four, addFour and Frame.
-/
import Derived.Test.YtplcpjngpkghmaaOv
import Derived.Test.YtplcpjngpkghmaaCrc
import Derived.Deep.CutBlock
import Derived.Deep.CutRange
import Derived.Deep.DeepCutAuto
namespace Go.Proofs.Ytplcpjngpkghmaa
open Go.RowKit

theorem xor_nat (a b : Nat) (ha : a < 4294967296) (hb : b < 4294967296) : bits .xor .u32 (a : Int) (b : Int) = ((a ^^^ b : Nat) : Int) := u32_xor_nat a b ha hb

theorem and_one (v : Nat) (h : v < 4294967296) (r : Int) (hr : (v % 2 : Nat) = r) : bits .and .u32 (v : Int) 1 = r := by
  rw [u32_and _ _ (by omega) (by omega) (by omega) (by omega)]
  simp only [Int.toNat_natCast, Int.reduceToNat, Nat.and_one_is_mod]
  exact hr

set_option maxHeartbeats 1000000 in
theorem checkOn_some (l : List UInt8) (g o cap c n : Nat) (w : World) (hc : c < 4294967296) (hL : Hid (l.length = n)) (hn : n < 1152921504606846976) (hr : Hid (Row w g o l)) :
    Calls Try.prog 68 #[.int .u32 c, .slice (some ⟨g, o, none⟩) n cap] w fun e w' => e = .returned (.int .u32 (Crc.on c l)) ∧ w' = w := by
  go_enter Try.func68, Try.ntmps68
  go_wp2_with fail
  go_loop [0, 10] (fun s i => ∃ k : Nat, k ≤ n ∧ i = .int .i64 k ∧ s = .int .u32 (Crc.on c (l.take k))) (fun _ i => n - (intOf i).toNat)
  case atStart => exact ⟨0, Nat.zero_le _, rfl, by rw [List.take_zero, Crc.on_nil]⟩
  case round =>
    obtain ⟨k, hk, rfl, rfl⟩ := hrel
    by_cases hlt : k < n
    · obtain ⟨x, hx⟩ : ∃ x, l[k]? = some x := ⟨l[k]'(by have := hL.out; omega), List.getElem?_eq_getElem _⟩
      have h0 := hr.out k x hx
      have HS : Hid (Crc.on c (l.take (k + 1)) = Crc.byte (Crc.on c (l.take k)) x.toNat) := by rw [take_snoc hx, Crc.on_snoc]; rfl
      have hb := u8_bd x
      have hs := Crc.on_lt (l.take k) hc
      clear hx
      generalize Crc.on c (l.take k) = s at *
      generalize hs' : Crc.on c (l.take (k + 1)) = s' at *
      have HS' : Hid (Crc.on c (l.take (k + 1)) = s') := hs'
      clear hs'
      have hxt := xor_nat s x.toNat hs (by omega)
      have ht : s ^^^ x.toNat < 4294967296 := Crc.xor_lt hs (by omega)
      have HT : Hid (s' = Crc.bits 8 (s ^^^ x.toNat)) := HS.out
      clear HS
      generalize s ^^^ x.toNat = t at *
      go_wp2_with fail
      clear h0 hxt
      go_loop [0, 18] (fun s i => ∃ j : Nat, j ≤ 8 ∧ i = .int .i64 j ∧ s = .int .u32 (Crc.bits j t)) (fun _ i => 8 - (intOf i).toNat)
      case atStart => exact ⟨0, Nat.zero_le _, rfl, by rw [Crc.bits]⟩
      case round =>
        obtain ⟨j, hj, rfl, rfl⟩ := hrel
        by_cases h8 : j < 8
        · have HB : Hid (Crc.bits (j + 1) t = Crc.bit (Crc.bits j t)) := by rw [Crc.bits]; exact rfl
          have hv := Crc.bits_lt ht j
          generalize Crc.bits j t = v at *
          by_cases hodd : v % 2 = 1
          · have ha : bits .and .u32 (v : Int) 1 = 1 := and_one v hv 1 (by omega)
            have HV : Hid (Crc.bits (j + 1) t = (v / 2) ^^^ 3988292384) := by rw [HB.out, Crc.bit, if_pos hodd]; exact rfl
            have hp : bits .xor .u32 ((v : Int) / 2) 3988292384 = (((v / 2) ^^^ 3988292384 : Nat) : Int) := xor_nat (v / 2) 3988292384 (by omega) (by omega)
            generalize (v / 2) ^^^ 3988292384 = m at *
            clear hodd
            go_wp2_with fail
            refine ⟨⟨j + 1, by omega, by go_num, ?_⟩, ?_⟩
            · rw [HV.out]
            · simp [intOf]; omega
          · have ha : bits .and .u32 (v : Int) 1 = 0 := and_one v hv 0 (by omega)
            have HV : Hid (Crc.bits (j + 1) t = v / 2) := by rw [HB.out, Crc.bit, if_neg hodd]; exact rfl
            clear hodd
            go_wp2_with fail
            refine ⟨⟨j + 1, by omega, by go_num, ?_⟩, ?_⟩
            · rw [HV.out]; rfl
            · simp [intOf]; omega
        · have e8 : j = 8 := by omega
          subst e8
          rw [← HT.out]
          go_wp2_with fail
          go_round
          case rel => exact ⟨k + 1, by omega, by go_num, by rw [HS'.out]⟩
          case measure => simp [intOf]; omega
    · have HA : Hid (Crc.on c (l.take k) = Crc.on c l) := by rw [List.take_of_length_le (by have := hL.out; omega)]; exact rfl
      go_wp2_with fail
      go_ret
      exact ⟨by rw [← HA.out]; rfl, rfl⟩

set_option maxHeartbeats 400000 in
theorem checkOn_none (a : Option Addr) (cap c : Nat) (w : World) :
    Calls Try.prog 68 #[.int .u32 c, .slice a 0 cap] w fun e w' => e = .returned (.int .u32 c) ∧ w' = w := by
  go_enter Try.func68, Try.ntmps68
  go_wp2_with fail
  go_rounds 1
  go_ret
  exact ⟨rfl, rfl⟩

theorem checkOn_any (l : List UInt8) (a : Option Addr) (cap c : Nat) (w : World) (hc : c < 4294967296) (hn : l.length < 1152921504606846976) (h : Lies w a l) :
    Calls Try.prog 68 #[.int .u32 c, .slice a l.length cap] w fun e w' => e = .returned (.int .u32 (Crc.on c l)) ∧ w' = w := by
  rcases h with rfl | ⟨g, o, rfl, h⟩
  · rw [Crc.on_nil]; exact checkOn_none a cap c w
  · exact checkOn_some l g o cap c l.length w hc rfl hn h

set_option maxHeartbeats 400000 in
theorem check_at (s t r : Nat) (v u : Value) (w : World) (hr : bits .xor .u32 4294967295 (t : Int) = (r : Int))
    (H1 : Hid (Calls Try.prog 68 #[.int .u32 4294967295, v] w fun e w' => e = .returned (.int .u32 s) ∧ w' = w))
    (H2 : Hid (Calls Try.prog 68 #[.int .u32 s, u] w fun e w' => e = .returned (.int .u32 t) ∧ w' = w)) :
    Calls Try.prog 58 #[v, u] w fun e w' => e = .returned (.int .u32 r) ∧ w' = w := by
  have hm : IntKind.u32.max = 4294967295 := rfl
  go_enter Try.func58, Try.ntmps58
  go_wp2_with (first | (go_at_call_of 68 #[Value.int .u32 4294967295, v]; refine H1.out.mono ?_; rintro e w1 ⟨rfl, rfl⟩) | (go_at_call_of 68 #[Value.int .u32 (s : Int), u]; refine H2.out.mono ?_; rintro e w1 ⟨rfl, rfl⟩))
  go_ret
  exact ⟨rfl, rfl⟩

theorem check_any (l m : List UInt8) (a b : Option Addr) (c d : Nat) (w : World) (hl : l.length < 1152921504606846976) (hm : m.length < 1152921504606846976) (ha : Lies w a l) (hb : Lies w b m) :
    Calls Try.prog 58 #[.slice a l.length c, .slice b m.length d] w fun e w' => e = .returned (.int .u32 (Crc.crc (l ++ m))) ∧ w' = w := by
  have k1 := Crc.on_lt l (c := 4294967295) (by omega)
  have k2 := Crc.on_lt m k1
  refine check_at _ _ _ _ _ w ?_ (checkOn_any l a c 4294967295 w (by omega) hl ha) (checkOn_any m b d _ w k1 hm hb)
  rw [Crc.crc, Crc.on_append, Nat.xor_comm]
  exact xor_nat 4294967295 _ (by omega) k2

theorem at_alloc {w : World} {n : Nat} {o x : Obj} (h : w.heap[n]? = some x) : (w.alloc o).heap[n]? = some x := (Below.heap_alloc w o n (Array.getElem?_eq_some_iff.1 h).1).trans h
/-- the four bytes of a number, as they are laid -/
def fourC (n : Nat) : Array Value := #[.int .u8 ((n : Int) % 256), .int .u8 ((n : Int) / 256 % 256), .int .u8 ((n : Int) / 65536 % 256), .int .u8 ((n : Int) / 16777216)]
theorem fourC_eq {n : Nat} (hn : n < 4294967296) : (fourC n).toList = bv (Crc.fourB n) := by
  simp only [fourC, bv, Crc.fourB, List.map_cons, List.map_nil, UInt8.toNat_ofNat', List.cons.injEq, Value.int.injEq, true_and, and_true]
  omega
theorem own_four {w : World} {n B : Nat} (hn : n < 4294967296) (hB : B ≤ w.heap.size) : Own (w.alloc (.cells (fourC n) 5)) B (.slice (some ⟨w.heap.size, 0, none⟩) 4 4) (Crc.fourB n) :=
  ⟨rfl, .inr ⟨w.heap.size, 4, fourC n, rfl, hB, new0, Nat.le_refl _, by decide, rfl, by rw [fourC_eq hn]; rfl⟩⟩
theorem lies_four {w : World} {n : Nat} (hn : n < 4294967296) : Lies (w.alloc (.cells (fourC n) 5)) (some ⟨w.heap.size, 0, none⟩) (Crc.fourB n) := by
  obtain ⟨a, c, e, h, _⟩ := (own_four (w := w) (B := 0) hn (Nat.zero_le _)).shape
  cases e
  exact h

set_option maxHeartbeats 400000 in
set_option maxRecDepth 100000 in
theorem addFour_at (B n k : Nat) (q : Option Addr) (c : Nat) (l : List UInt8) (w : World) (hn : n < 4294967296) (hk : Hid (l.length = k)) (hown : Hid (Own w B (.slice q k c) l)) (hB : B ≤ w.heap.size) (hl : k ≤ 70368744177664) :
    Calls Try.prog 57 #[.slice q k c, .int .u32 n] w fun e w' => ∃ v', e = .returned v' ∧ Own w' B v' (l ++ Crc.fourB n) ∧ Below B w w' := by
  go_enter Try.func57, Try.ntmps57
  go_wp2_with (at_builtin; refine append_bytes (w := w.alloc (.cells (fourC n) 5)) rfl _ _ rfl B (.slice q k c) l (Crc.fourB n) rfl (hown.out.keep ((Below.refl _ w).alloc (Nat.le_refl _) _)) (some ⟨w.heap.size, 0, none⟩) 4 4 rfl rfl (fun e => by cases e) (lies_four hn) (by rw [hk.out, Crc.fourB_length]; omega) (by simp; omega) ?_; intro v' w' h1 h2)
  go_ret
  exact ⟨v', rfl, h1, ((Below.refl B w).alloc hB _).trans h2⟩

theorem addFour_any (B n : Nat) (q : Option Addr) (c : Nat) (l : List UInt8) (w : World) (hn : n < 4294967296) (hown : Own w B (.slice q l.length c) l) (hB : B ≤ w.heap.size) (hl : l.length ≤ 70368744177664) :
    Calls Try.prog 57 #[.slice q l.length c, .int .u32 n] w fun e w' => ∃ q' c', e = .returned (.slice q' (l.length + 4 : Nat) c') ∧ Own w' B (.slice q' (l.length + 4 : Nat) c') (l ++ Crc.fourB n) ∧ Below B w w' := by
  refine (addFour_at B n l.length q c l w hn rfl hown hB hl).mono ?_
  rintro e w' ⟨v', rfl, h1, h2⟩
  obtain ⟨a, c', rfl, _⟩ := h1.shape
  rw [List.length_append, Crc.fourB_length] at h1 ⊢
  exact ⟨a, c', rfl, h1, h2⟩

theorem four_bits (a b c d : UInt8) : bits .or .u32 (bits .or .u32 (bits .or .u32 (a.toNat : Int) ((b.toNat : Int) * 256)) ((c.toNat : Int) * 65536)) ((d.toNat : Int) * 16777216) = ((a.toNat + b.toNat * 256 + c.toNat * 65536 + d.toNat * 16777216 : Nat) : Int) := by
  have := a.toNat_lt
  have := b.toNat_lt
  have := c.toNat_lt
  have := d.toNat_lt
  generalize a.toNat = a at *
  generalize b.toNat = b at *
  generalize c.toNat = c at *
  generalize d.toNat = d at *
  have e1 : bits .or .u32 (a : Int) ((b : Int) * 256) = ((a + b * 256 : Nat) : Int) := by
    rw [show ((b : Int) * 256) = ((b * 256 : Nat) : Int) by omega, u32_or_nat _ _ (by omega) (by omega), ← join (k := 8) b (by omega)]
  rw [e1]
  have e2 : bits .or .u32 ((a + b * 256 : Nat) : Int) ((c : Int) * 65536) = ((a + b * 256 + c * 65536 : Nat) : Int) := by
    rw [show ((c : Int) * 65536) = ((c * 65536 : Nat) : Int) by omega, u32_or_nat _ _ (by omega) (by omega), ← join (k := 16) c (by omega)]
  rw [e2, show ((d : Int) * 16777216) = ((d * 16777216 : Nat) : Int) by omega, u32_or_nat _ _ (by omega) (by omega), ← join (k := 24) d (by omega)]

set_option maxHeartbeats 400000 in
theorem four_at (a b c d : UInt8) (g o k cap r : Nat) (w : World) (hk : 4 ≤ k) (hr : Hid (Row w g o [a, b, c, d])) (hR : bits .or .u32 (bits .or .u32 (bits .or .u32 (a.toNat : Int) ((b.toNat : Int) * 256)) ((c.toNat : Int) * 65536)) ((d.toNat : Int) * 16777216) = (r : Int)) :
    Calls Try.prog 90 #[.slice (some ⟨g, o, none⟩) k cap] w fun e w' => e = .returned (.int .u32 r) ∧ ∃ n, w' = w.drewN n := by
  have h0 := hr.out 0 a rfl
  have h1 := hr.out 1 b rfl
  have h2 := hr.out 2 c rfl
  have h3 := hr.out 3 d rfl
  have ba := u8_bd a
  have bb := u8_bd b
  have bc := u8_bd c
  have bd := u8_bd d
  rw [Nat.add_zero] at h0
  go_enter Try.func90, Try.ntmps90
  go_wp2_with fail
  go_quiet (fail)
  go_wp2_with fail
  go_ret
  exact ⟨rfl, _, rfl⟩

theorem four_any (a b c d : UInt8) (l : List UInt8) (g o k cap : Nat) (w : World) (hk : 4 ≤ k) (hr : Row w g o (a :: b :: c :: d :: l)) :
    Calls Try.prog 90 #[.slice (some ⟨g, o, none⟩) k cap] w fun e w' => e = .returned (.int .u32 (Crc.fourN (a :: b :: c :: d :: l))) ∧ ∃ n, w' = w.drewN n := by
  refine four_at a b c d g o k cap _ w hk (fun j x hx => hr j x ?_) (four_bits a b c d)
  match j, hx with
  | 0, hx => exact hx
  | 1, hx => exact hx
  | 2, hx => exact hx
  | 3, hx => exact hx

theorem addFour_nil (B n : Nat) (w : World) (hn : n < 4294967296) (hB : B ≤ w.heap.size) :
    Calls Try.prog 57 #[.slice none 0 0, .int .u32 n] w fun e w' => ∃ q' c', e = .returned (.slice q' 4 c') ∧ Own w' B (.slice q' 4 c') (Crc.fourB n) ∧ Below B w w' := addFour_any B n none 0 [] w hn (Own.nil w B) hB (by simp)
theorem addFour_two (B n m : Nat) (q : Option Addr) (c : Nat) (w : World) (hn : n < 4294967296) (hown : Own w B (.slice q 4 c) (Crc.fourB m)) (hB : B ≤ w.heap.size) :
    Calls Try.prog 57 #[.slice q 4 c, .int .u32 n] w fun e w' => ∃ q' c', e = .returned (.slice q' 8 c') ∧ Own w' B (.slice q' 8 c') (Crc.fourB m ++ Crc.fourB n) ∧ Below B w w' := addFour_any B n q c (Crc.fourB m) w hn hown hB (by rw [Crc.fourB_length]; omega)

set_option maxHeartbeats 1000000 in
theorem frame_at (l : List UInt8) (a : Option Addr) (c n k : Nat) (w : World) (hn : Hid (l.length = n)) (hle : n ≤ 4096) (ha : Hid (Lies w a l)) (hc : Hid (a = none → c = 0)) (hk : Hid (Crc.crc (Crc.fourB n ++ l) = k)) :
    Calls Try.prog 43 #[.slice a n c] w fun e w' => ∃ v, e = .returned (.tuple #[v, .int .i64 0]) ∧ Own w' w.heap.size v (Crc.fourB n ++ Crc.fourB k ++ l) ∧ Below w.heap.size w w' := by
  have HK : Hid (k < 4294967296) := by rw [← hk.out]; exact Crc.crc_lt _
  go_enter Try.func43, Try.ntmps43
  go_wp2_with (first
    | (go_at_call_of 57 (Value.slice none 0 0); refine (addFour_nil w.heap.size n _ (by omega) (Nat.le_refl _)).mono ?_; rintro e w1 ⟨q1, c1, rfl, o1, b1⟩; have O1 : Hid (Own w1 w.heap.size (.slice q1 4 c1) (Crc.fourB n)) := o1; have B1 : Hid (Below w.heap.size w w1) := b1; clear o1 b1)
    | (go_at_call 58; refine (check_any (Crc.fourB n) l q1 a c1 c w1 (by rw [Crc.fourB_length]; omega) (by rw [hn.out]; omega) (own_parts O1.out).1 (ha.out.keep B1.out (Nat.le_refl _)) |> fun h => (by rw [hn.out, Crc.fourB_length, hk.out] at h; exact h : Calls Try.prog 58 #[.slice q1 4 c1, .slice a n c] w1 fun e w' => e = .returned (.int .u32 k) ∧ w' = w1)).mono ?_; rintro e w2 ⟨rfl, rfl⟩)
    | (go_at_call 57; refine (addFour_two w.heap.size k n q1 c1 _ HK.out O1.out B1.out.size).mono ?_; rintro e w3 ⟨q3, c3, rfl, o3, b3⟩; have O3 : Hid (Own w3 w.heap.size (.slice q3 8 c3) (Crc.fourB n ++ Crc.fourB k)) := o3; have B3 : Hid (Below w.heap.size w w3) := B1.out.trans b3; clear o3 b3 O1 B1)
    | (at_builtin; refine append_bytes rfl _ _ rfl w.heap.size (.slice q3 8 c3) (Crc.fourB n ++ Crc.fourB k) l rfl O3.out a c n rfl hn.out hc.out (ha.out.keep B3.out (Nat.le_refl _)) (by rw [hn.out, List.length_append, Crc.fourB_length, Crc.fourB_length]; omega) B3.out.size ?_; intro v' w4 h1 h2))
  go_ret2
  exact ⟨v', rfl, h1, B3.out.trans h2⟩

theorem frame_any (l : List UInt8) (a : Option Addr) (c : Nat) (w : World) (hle : l.length ≤ 4096) (ha : Lies w a l) (hc : a = none → c = 0) :
    Calls Try.prog 43 #[.slice a l.length c] w fun e w' => ∃ q c', e = .returned (.tuple #[.slice q (l.length + 8 : Nat) c', .int .i64 0]) ∧ Own w' w.heap.size (.slice q (l.length + 8 : Nat) c') (Crc.frame l) ∧ Below w.heap.size w w' := by
  refine (frame_at l a c l.length _ w rfl hle ha hc rfl).mono ?_
  rintro e w' ⟨v, rfl, h1, h2⟩
  have h1 : Own w' w.heap.size v (Crc.frame l) := h1
  obtain ⟨q, c', rfl, _⟩ := h1.shape
  rw [Crc.frame_length] at h1 ⊢
  exact ⟨q, c', rfl, h1, h2⟩

set_option maxHeartbeats 400000 in
theorem frame_long (a : Option Addr) (c n : Nat) (w : World) (hn : 4096 < (n : Int)) :
    Calls Try.prog 43 #[.slice a n c] w fun e w' => e = .returned (.tuple #[.slice none 0 0, .int .i64 1]) ∧ w' = w := by
  go_enter Try.func43, Try.ntmps43
  go_wp2_with fail
  go_ret2
  exact ⟨rfl, rfl⟩
/-- bytes behind an owned row, which stays where another row lies -/
theorem Own.stay {w w1 : World} {B B' : Nat} {v : Value} {l : List UInt8} (h : Own w B v l) (b : Below B' w w1) (hB : ∀ g, v.ownBlock = some g → g < B') : Own w1 B v l := by
  refine ⟨h.1, ?_⟩
  rcases h.2 with hn | ⟨g, cap, cur, rfl, hb, hgg, rest⟩
  · exact .inl hn
  · exact .inr ⟨g, cap, cur, rfl, hb, (b.block g (hB g rfl)).trans hgg, rest⟩
theorem own_lt {w : World} {B k : Nat} {g c : Nat} {l : List UInt8} (h : Own w B (.slice (some ⟨g, 0, none⟩) k c) l) : g < w.heap.size := (World.ownsRow.lt h g rfl).2

end Go.Proofs.Ytplcpjngpkghmaa
