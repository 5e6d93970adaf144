/-
  The contracts of the reference's Check and of SameBytes.
-/
import Derived.Test.YtefidmjekjhdaaaWalkA
namespace Go.Proofs.Ytefidmjekjhdaaa
open Go.RowKit

theorem below_drewN {B : Nat} {a w : World} (h : Below B a w) (n : Nat) : Below B a (w.drewN n) := ⟨h.os, h.tape, h.output, h.size, h.block⟩
theorem below_from {B : Nat} {w W w1 : World} (h : Below B w W) (b : Below W.heap.size W w1) (hB : B ≤ W.heap.size) : Below B w w1 := h.trans (b.mono hB)
theorem new0 {w : World} {o : Obj} : (w.alloc o).heap[w.heap.size]? = some o := Go.heap_alloc_new w _
theorem at_alloc {w : World} {n : Nat} {o x : Obj} (h : w.heap[n]? = some x) : (w.alloc o).heap[n]? = some x := (Below.heap_alloc w o n (Array.getElem?_eq_some_iff.1 h).1).trans h
theorem at_below {W w1 : World} {g : Nat} {o : Obj} {B : Nat} (b : Below B W w1) (hB : W.heap.size ≤ B) (h : W.heap[g]? = some o) : w1.heap[g]? = some o :=
  (b.block g (Nat.lt_of_lt_of_le (Array.getElem?_eq_some_iff.1 h).1 hB)).trans h

set_option maxHeartbeats 1000000 in
theorem rcheck_some (l : List UInt8) (g o cap n r : Nat) (w : World) (hL : Hid (l.length = n)) (hn : n < 1152921504606846976) (hr : Hid (Row w g o l)) (hR : bits .xor .u32 (Crc.on 4294967295 l : Int) 4294967295 = (r : Int)) :
    Calls Try.prog 17 #[.slice (some ⟨g, o, none⟩) n cap] w fun e w' => e = .returned (.int .u32 r) ∧ w' = w := by
  have hc : (4294967295 : Nat) < 4294967296 := by omega
  generalize hcc : (4294967295 : Nat) = c at hc hR
  have HR : Hid (bits .xor .u32 (Crc.on c l : Int) 4294967295 = (r : Int)) := hR
  have Hc : Hid ((4294967295 : Nat) = c) := hcc
  clear hR hcc
  go_enter Try.func17, Try.ntmps17
  go_wp2_with fail
  go_loop [3, 4] (fun s i => ∃ k : Nat, k ≤ n ∧ i = .int .i64 k ∧ s = .int .u32 (Crc.on c (l.take k))) (fun _ i => n - (intOf i).toNat)
  case atStart => exact ⟨0, Nat.zero_le _, rfl, by rw [List.take_zero, Crc.on_nil, ← Hc.out]; rfl⟩
  case round =>
    obtain ⟨k, hk, rfl, rfl⟩ := hrel
    by_cases hlt : k < n
    · obtain ⟨x, hx⟩ : ∃ x, l[k]? = some x := ⟨l[k]'(by have := hL.out; omega), List.getElem?_eq_getElem _⟩
      have h0 := hr.out k x hx
      have HS : Hid (Crc.on c (l.take (k + 1)) = Crc.byte (Crc.on c (l.take k)) x.toNat) := by rw [take_snoc hx, Crc.on_snoc]; rfl
      have hb := u8_bd x
      have hs := Crc.on_lt (l.take k) hc
      clear hx
      generalize Crc.on c (l.take k) = s at *
      generalize hs' : Crc.on c (l.take (k + 1)) = s' at *
      have HS' : Hid (Crc.on c (l.take (k + 1)) = s') := hs'
      clear hs'
      have hxt := xor_nat s x.toNat hs (by omega)
      have ht : s ^^^ x.toNat < 4294967296 := Crc.xor_lt hs (by omega)
      have HT : Hid (s' = Crc.bits 8 (s ^^^ x.toNat)) := HS.out
      clear HS
      generalize s ^^^ x.toNat = t at *
      go_wp2_with fail
      clear h0 hxt
      go_loop [3, 5] (fun s i => ∃ j : Nat, j ≤ 8 ∧ i = .int .i64 j ∧ s = .int .u32 (Crc.bits j t)) (fun _ i => 8 - (intOf i).toNat)
      case atStart => exact ⟨0, Nat.zero_le _, rfl, by rw [Crc.bits]⟩
      case round =>
        obtain ⟨j, hj, rfl, rfl⟩ := hrel
        by_cases h8 : j < 8
        · have HB : Hid (Crc.bits (j + 1) t = Crc.bit (Crc.bits j t)) := by rw [Crc.bits]; exact rfl
          have hv := Crc.bits_lt ht j
          generalize Crc.bits j t = v at *
          by_cases hodd : v % 2 = 1
          · have ha : (v : Int) % 2 = 1 := by omega
            have HV : Hid (Crc.bits (j + 1) t = (v / 2) ^^^ 3988292384) := by rw [HB.out, Crc.bit, if_pos hodd]; exact rfl
            have hp : bits .xor .u32 ((v : Int) / 2) 3988292384 = (((v / 2) ^^^ 3988292384 : Nat) : Int) := xor_nat (v / 2) 3988292384 (by omega) (by omega)
            generalize (v / 2) ^^^ 3988292384 = m at *
            clear hodd
            go_wp2_with fail
            refine ⟨⟨j + 1, by omega, by go_num, ?_⟩, ?_⟩
            · rw [HV.out]
            · simp [intOf]; omega
          · have ha : (v : Int) % 2 = 0 := by omega
            have HV : Hid (Crc.bits (j + 1) t = v / 2) := by rw [HB.out, Crc.bit, if_neg hodd]; exact rfl
            clear hodd
            go_wp2_with fail
            refine ⟨⟨j + 1, by omega, by go_num, ?_⟩, ?_⟩
            · rw [HV.out]; rfl
            · simp [intOf]; omega
        · have e8 : j = 8 := by omega
          subst e8
          rw [← HT.out]
          go_wp2_with fail
          go_round
          case rel => exact ⟨k + 1, by omega, by go_num, by rw [HS'.out]⟩
          case measure => simp [intOf]; omega
    · have HA : Crc.on c (l.take k) = Crc.on c l := by rw [List.take_of_length_le (by have := hL.out; omega)]
      rw [HA]
      have hR := HR.out
      clear HA
      go_wp2_with fail
      go_ret
      exact ⟨rfl, rfl⟩

set_option maxHeartbeats 400000 in
theorem rcheck_none (a : Option Addr) (cap : Nat) (w : World) :
    Calls Try.prog 17 #[.slice a 0 cap] w fun e w' => e = .returned (.int .u32 0) ∧ w' = w := by
  have hR : bits .xor .u32 4294967295 4294967295 = 0 := by decide
  go_enter Try.func17, Try.ntmps17
  go_wp2_with fail
  go_rounds 1
  go_ret
  exact ⟨rfl, rfl⟩

theorem crc_nil : Crc.crc [] = 0 := by rw [Crc.crc, Crc.on_nil]; decide
theorem rcheck_any (l : List UInt8) (a : Option Addr) (cap : Nat) (w : World) (hn : l.length < 1152921504606846976) (h : Lies w a l) :
    Calls Try.prog 17 #[.slice a l.length cap] w fun e w' => e = .returned (.int .u32 (Crc.crc l)) ∧ w' = w := by
  rcases h with rfl | ⟨g, o, rfl, h⟩
  · rw [crc_nil]; exact rcheck_none a cap w
  · refine rcheck_some l g o cap l.length _ w rfl hn h ?_
    rw [Crc.crc]
    exact xor_nat _ 4294967295 (Crc.on_lt l (by omega)) (by omega)

/-! ### Two lists of bytes -/
theorem ret_b {a b : Bool} (h : a = b) : Ending.returned (.bool a) = .returned (.bool b) := by rw [h]

set_option maxHeartbeats 1000000 in
theorem same_some (l m : List UInt8) (g o g' o' c d n : Nat) (w : World) (hL : Hid (l.length = n)) (hM : Hid (m.length = n)) (hn : n < 1152921504606846976) (hr : Hid (Row w g o l)) (hr' : Hid (Row w g' o' m)) :
    Calls Try.prog 11 #[.slice (some ⟨g, o, none⟩) n c, .slice (some ⟨g', o', none⟩) n d] w fun e w' => e = .returned (.bool (decide (l = m))) ∧ Below w.heap.size w w' := by
  go_enter Try.func11, Try.ntmps11
  go_wp2_with fail
  go_loopw [5] (fun i wr => ∃ k : Nat, k ≤ n ∧ i = .int .i64 k ∧ l.take k = m.take k ∧ Below w.heap.size w wr) (fun i _ => n - (intOf i).toNat)
  case atStart => exact ⟨0, Nat.zero_le _, rfl, by rw [List.take_zero, List.take_zero], Below.refl _ _⟩
  case round =>
    obtain ⟨k, hk, rfl, hq, hb⟩ := hrel
    have HB : Hid (Below w.heap.size w wr) := hb
    have HQ : Hid (l.take k = m.take k) := hq
    clear hb hq
    by_cases hlt : k < n
    · obtain ⟨x, hx⟩ : ∃ x, l[k]? = some x := ⟨l[k]'(by have := hL.out; omega), List.getElem?_eq_getElem _⟩
      obtain ⟨y, hy⟩ : ∃ y, m[k]? = some y := ⟨m[k]'(by have := hM.out; omega), List.getElem?_eq_getElem _⟩
      have h0 := hr.out.keep HB.out (Nat.le_refl _) k x hx
      have h1 := hr'.out.keep HB.out (Nat.le_refl _) k y hy
      have hi : (k : Int) < (n : Int) := by omega
      by_cases hxy : x = y
      · have HN : Hid (l.take (k + 1) = m.take (k + 1)) := by rw [take_snoc hx, take_snoc hy, HQ.out, hxy]; exact rfl
        subst hxy
        clear hx hy
        go_wp2_with fail
        go_quiet (fail)
        go_wp2_with fail
        refine ⟨⟨k + 1, by omega, by go_num, HN.out, below_drewN HB.out _⟩, ?_⟩
        simp [intOf]; omega
      · have hne : ((x.toNat : Int) != (y.toNat : Int)) = true := by
          simp only [bne_iff_ne, ne_eq, Int.natCast_inj]
          exact fun h => hxy (UInt8.toNat_inj.1 h)
        have HF : Hid (decide (l = m) = false) := by
          refine (decide_eq_false fun h => hxy ?_ : decide (l = m) = false)
          rw [h, hy] at hx
          exact (Option.some.inj hx).symm
        clear hx hy hxy
        go_wp2_with fail
        go_quiet (fail)
        go_wp2_with fail
        go_ret
        exact ⟨ret_b HF.out.symm, below_drewN HB.out _⟩
    · have HT : Hid (decide (l = m) = true) := by
        refine (decide_eq_true ?_ : decide (l = m) = true)
        have := HQ.out
        rwa [List.take_of_length_le (by have := hL.out; omega), List.take_of_length_le (by have := hM.out; omega)] at this
      go_wp2_with fail
      go_ret
      exact ⟨ret_b HT.out.symm, HB.out⟩

set_option maxHeartbeats 400000 in
theorem same_len (a b : Option Addr) (n m c d : Nat) (w : World) (hne : ((n : Int) != (m : Int)) = true) :
    Calls Try.prog 11 #[.slice a n c, .slice b m d] w fun e w' => e = .returned (.bool false) ∧ w' = w := by
  go_enter Try.func11, Try.ntmps11
  go_wp2_with fail
  go_ret
  exact ⟨rfl, rfl⟩
set_option maxHeartbeats 400000 in
theorem same_none (a b : Option Addr) (c d : Nat) (w : World) :
    Calls Try.prog 11 #[.slice a 0 c, .slice b 0 d] w fun e w' => e = .returned (.bool true) ∧ w' = w := by
  go_enter Try.func11, Try.ntmps11
  go_wp2_with fail
  go_rounds 1
  go_ret
  exact ⟨rfl, rfl⟩

theorem same_any (l m : List UInt8) (a b : Option Addr) (c d : Nat) (w : World) (hl : l.length < 1152921504606846976) (ha : Lies w a l) (hb : Lies w b m) :
    Calls Try.prog 11 #[.slice a l.length c, .slice b m.length d] w fun e w' => e = .returned (.bool (decide (l = m))) ∧ Below w.heap.size w w' := by
  by_cases hn : l.length = m.length
  · by_cases h0 : l.length = 0
    · obtain rfl := List.eq_nil_of_length_eq_zero h0
      obtain rfl := List.eq_nil_of_length_eq_zero (hn.symm.trans h0)
      refine (same_none a b c d w).mono ?_
      rintro e w' ⟨rfl, rfl⟩
      exact ⟨rfl, Below.refl _ _⟩
    · rcases ha with rfl | ⟨g, o, rfl, ha⟩
      · exact absurd rfl h0
      rcases hb with rfl | ⟨g', o', rfl, hb⟩
      · exact absurd hn h0
      rw [← hn]
      exact same_some l m g o g' o' c d l.length w rfl hn.symm hl ha hb
  · refine (same_len a b _ _ c d w (by simp; omega)).mono ?_
    rintro e w' ⟨rfl, rfl⟩
    exact ⟨ret_b (decide_eq_false fun h => hn (by rw [h])).symm, Below.refl _ _⟩

end Go.Proofs.Ytefidmjekjhdaaa
