/-
  The contracts of the reference's Rune and Check, and of the program's Check.
-/
import Derived.Test.YtlknklpjlljfjaaRows
import Derived.Test.YtlknklpjlljfjaaSpec
import Derived.WalkKit
import Derived.WalkSpells
namespace Go.Proofs.Ytlknklpjlljfjaa
open Go.RowKit

theorem wb (b : UInt8) : wrap64 (b.toNat : Int) = (b.toNat : Int) := by
  have := b.toNat_lt
  unfold wrap64
  omega
theorem wq (b : UInt8) (n : Nat) : wrap64 ((b.toNat : Int).tdiv n) = ((b.toNat / n : Nat) : Int) := by
  have := b.toNat_lt
  have e : ((b.toNat : Int).tdiv n) = ((b.toNat / n : Nat) : Int) := rfl
  have : b.toNat / n ≤ b.toNat := Nat.div_le_self _ _
  rw [e]
  generalize b.toNat / n = q at *
  unfold wrap64
  omega
theorem wm (b : UInt8) (n : Nat) : ((b.toNat : Int).tmod n) = ((b.toNat % n : Nat) : Int) := rfl

theorem ret_two {a b c d : Int} (h : a = c) (h' : b = d) : Ending.returned (.tuple #[.int .i64 a, .int .i64 b]) = .returned (.tuple #[.int .i64 c, .int .i64 d]) := by rw [h, h']


set_option maxHeartbeats 1000000 in
set_option maxRecDepth 100000 in
theorem rune_2 (s : ByteArray) (i : Nat) (w : World) (hs : s.size ≤ 9223372036854775000) (hi : i < s.size) (h1 : ¬ (s[i].toNat : Int) < 128) (hq : ((s[i].toNat : Int) / 32 == 6) = true) :
    Calls Try.prog 20 #[.string s, .int .i64 i] w fun e w' => e = .returned (.tuple #[.int .i64 ((Txt.seq (s.data.toList.drop i)).getD (0, 0)).1, .int .i64 ((Txt.seq (s.data.toList.drop i)).getD (0, 0)).2]) ∧ w' = w := by
  have hwb := wb
  have hb : (s[i].toNat : Int) ≤ 255 := by have := (s[i]).toNat_lt; omega
  have H0 : Hid (Txt.at' (s.data.toList.drop i) 0 = s[i].toNat) := Txt.at_get s i 0 hi
  have Hl : Hid ((s.data.toList.drop i).length = s.size - i) := by unfold Hid; rw [List.length_drop, ← Lib.size_eq]
  have HL : Hid (Txt.lead (s.data.toList.drop i) 2 (s[i].toNat % 32) 128) := by
    have e : (s[i].toNat : Int) / 32 = 6 := by simpa using hq
    unfold Hid Txt.lead; rw [H0.out]; omega
  by_cases hsh : (s.size : Int) < (i : Int) + 2
  · go_enter Try.func20, Try.ntmps20
    go_wp2_with fail
    go_ret2
    rw [Txt.seq_short HL.out (by rw [Hl.out]; omega) (by rw [Hl.out]; omega)]
    exact ⟨rfl, rfl⟩
  · go_enter Try.func20, Try.ntmps20
    go_wp2_with fail
    go_loop [8, 10] (fun r k => ∃ m : Nat, 1 ≤ m ∧ m ≤ 2 ∧ k = .int .i64 m ∧ r = .int .i64 (Txt.acc (s.data.toList.drop i) (s[i].toNat % 32) (m - 1) : Nat) ∧ ∀ j, 1 ≤ j → j < m → Txt.at' (s.data.toList.drop i) j / 64 = 2) (fun _ k => 2 - (intOf k).toNat)
    case atStart => exact ⟨1, by omega, by omega, rfl, rfl, fun j h1 h2 => by omega⟩
    case round =>
      obtain ⟨m, hm1, hm2, rfl, rfl, hc0⟩ := hrel
      have HC : Hid (∀ j, 1 ≤ j → j < m → Txt.at' (s.data.toList.drop i) j / 64 = 2) := hc0
      clear hc0
      have ha0 : Txt.acc (s.data.toList.drop i) (s[i].toNat % 32) (m - 1) < 8388608 := Txt.acc_lt _ _ _ (by omega) (by omega)
      by_cases hlt : m < 2
      · have hin : i + m < s.size := by omega
        have hb2 : (s[i + m].toNat : Int) ≤ 255 := by have := (s[i + m]).toNat_lt; omega
        have HA : Hid (Txt.at' (s.data.toList.drop i) m = s[i + m].toNat) := Txt.at_get s i m hin
        have HN : Hid (Txt.acc (s.data.toList.drop i) (s[i].toNat % 32) (m + 1 - 1) = Txt.acc (s.data.toList.drop i) (s[i].toNat % 32) (m - 1) * 64 + s[i + m].toNat % 64) := by
          unfold Hid
          obtain ⟨m', rfl⟩ : ∃ m', m = m' + 1 := ⟨m - 1, by omega⟩
          rw [← HA.out]; rfl
        go_wp2_with fail
        · have e : ¬ (s[i + m].toNat : Int) / 64 = 2 := by simpa using ‹((s[i + m].toNat : Int) / 64 != 2) = true›
          go_ret2
          rw [Txt.seq_cut HL.out hm1 hlt (by rw [HA.out]; omega)]
          exact ⟨rfl, rfl⟩
        · have e : (s[i + m].toNat : Int) / 64 = 2 := by simpa using ‹((s[i + m].toNat : Int) / 64 != 2) = false›
          refine ⟨?_, ?_⟩
          · refine ⟨m + 1, by omega, by omega, by go_num, by rw [HN.out]; go_num, fun j h1 h2 => ?_⟩
            rcases (by omega : j < m ∨ j = m) with h | rfl
            · exact HC.out j h1 h
            · rw [HA.out]; omega
          · simp [intOf]; omega
      · have HF : Hid (Txt.seq (s.data.toList.drop i) = _) := Txt.seq_full HL.out (fun j h1 h2 => HC.out j h1 (by omega))
        have hN : 2 = m := by omega
        have HM : Hid (((2 : Nat) : Int) = (m : Int)) := by unfold Hid; omega
        rw [hN] at HF
        clear hN
        go_wp2_with fail
        all_goals
          go_ret2
          rw [HF.out]
          first
            | (rw [if_pos (by omega)]; exact ⟨rfl, rfl⟩)
            | (rw [if_neg (by omega)]; exact ⟨ret_two rfl HM.out, rfl⟩)

set_option maxHeartbeats 1000000 in
set_option maxRecDepth 100000 in
theorem rune_3 (s : ByteArray) (i : Nat) (w : World) (hs : s.size ≤ 9223372036854775000) (hi : i < s.size) (h1 : ¬ (s[i].toNat : Int) < 128) (h2 : ((s[i].toNat : Int) / 32 == 6) = false) (hq : ((s[i].toNat : Int) / 16 == 14) = true) :
    Calls Try.prog 20 #[.string s, .int .i64 i] w fun e w' => e = .returned (.tuple #[.int .i64 ((Txt.seq (s.data.toList.drop i)).getD (0, 0)).1, .int .i64 ((Txt.seq (s.data.toList.drop i)).getD (0, 0)).2]) ∧ w' = w := by
  have hwb := wb
  have hb : (s[i].toNat : Int) ≤ 255 := by have := (s[i]).toNat_lt; omega
  have H0 : Hid (Txt.at' (s.data.toList.drop i) 0 = s[i].toNat) := Txt.at_get s i 0 hi
  have Hl : Hid ((s.data.toList.drop i).length = s.size - i) := by unfold Hid; rw [List.length_drop, ← Lib.size_eq]
  have HL : Hid (Txt.lead (s.data.toList.drop i) 3 (s[i].toNat % 16) 2048) := by
    have e : (s[i].toNat : Int) / 16 = 14 := by simpa using hq
    unfold Hid Txt.lead; rw [H0.out]; omega
  by_cases hsh : (s.size : Int) < (i : Int) + 3
  · go_enter Try.func20, Try.ntmps20
    go_wp2_with fail
    go_ret2
    rw [Txt.seq_short HL.out (by rw [Hl.out]; omega) (by rw [Hl.out]; omega)]
    exact ⟨rfl, rfl⟩
  · go_enter Try.func20, Try.ntmps20
    go_wp2_with fail
    go_loop [8, 10] (fun r k => ∃ m : Nat, 1 ≤ m ∧ m ≤ 3 ∧ k = .int .i64 m ∧ r = .int .i64 (Txt.acc (s.data.toList.drop i) (s[i].toNat % 16) (m - 1) : Nat) ∧ ∀ j, 1 ≤ j → j < m → Txt.at' (s.data.toList.drop i) j / 64 = 2) (fun _ k => 3 - (intOf k).toNat)
    case atStart => exact ⟨1, by omega, by omega, rfl, rfl, fun j h1 h2 => by omega⟩
    case round =>
      obtain ⟨m, hm1, hm2, rfl, rfl, hc0⟩ := hrel
      have HC : Hid (∀ j, 1 ≤ j → j < m → Txt.at' (s.data.toList.drop i) j / 64 = 2) := hc0
      clear hc0
      have ha0 : Txt.acc (s.data.toList.drop i) (s[i].toNat % 16) (m - 1) < 8388608 := Txt.acc_lt _ _ _ (by omega) (by omega)
      by_cases hlt : m < 3
      · have hin : i + m < s.size := by omega
        have hb2 : (s[i + m].toNat : Int) ≤ 255 := by have := (s[i + m]).toNat_lt; omega
        have HA : Hid (Txt.at' (s.data.toList.drop i) m = s[i + m].toNat) := Txt.at_get s i m hin
        have HN : Hid (Txt.acc (s.data.toList.drop i) (s[i].toNat % 16) (m + 1 - 1) = Txt.acc (s.data.toList.drop i) (s[i].toNat % 16) (m - 1) * 64 + s[i + m].toNat % 64) := by
          unfold Hid
          obtain ⟨m', rfl⟩ : ∃ m', m = m' + 1 := ⟨m - 1, by omega⟩
          rw [← HA.out]; rfl
        go_wp2_with fail
        · have e : ¬ (s[i + m].toNat : Int) / 64 = 2 := by simpa using ‹((s[i + m].toNat : Int) / 64 != 2) = true›
          go_ret2
          rw [Txt.seq_cut HL.out hm1 hlt (by rw [HA.out]; omega)]
          exact ⟨rfl, rfl⟩
        · have e : (s[i + m].toNat : Int) / 64 = 2 := by simpa using ‹((s[i + m].toNat : Int) / 64 != 2) = false›
          refine ⟨?_, ?_⟩
          · refine ⟨m + 1, by omega, by omega, by go_num, by rw [HN.out]; go_num, fun j h1 h2 => ?_⟩
            rcases (by omega : j < m ∨ j = m) with h | rfl
            · exact HC.out j h1 h
            · rw [HA.out]; omega
          · simp [intOf]; omega
      · have HF : Hid (Txt.seq (s.data.toList.drop i) = _) := Txt.seq_full HL.out (fun j h1 h2 => HC.out j h1 (by omega))
        have hN : 3 = m := by omega
        have HM : Hid (((3 : Nat) : Int) = (m : Int)) := by unfold Hid; omega
        rw [hN] at HF
        clear hN
        go_wp2_with fail
        all_goals
          go_ret2
          rw [HF.out]
          first
            | (rw [if_pos (by omega)]; exact ⟨rfl, rfl⟩)
            | (rw [if_neg (by omega)]; exact ⟨ret_two rfl HM.out, rfl⟩)

set_option maxHeartbeats 1000000 in
set_option maxRecDepth 100000 in
theorem rune_4 (s : ByteArray) (i : Nat) (w : World) (hs : s.size ≤ 9223372036854775000) (hi : i < s.size) (h1 : ¬ (s[i].toNat : Int) < 128) (h2 : ((s[i].toNat : Int) / 32 == 6) = false) (h3 : ((s[i].toNat : Int) / 16 == 14) = false) (hq : ((s[i].toNat : Int) / 8 == 30) = true) :
    Calls Try.prog 20 #[.string s, .int .i64 i] w fun e w' => e = .returned (.tuple #[.int .i64 ((Txt.seq (s.data.toList.drop i)).getD (0, 0)).1, .int .i64 ((Txt.seq (s.data.toList.drop i)).getD (0, 0)).2]) ∧ w' = w := by
  have hwb := wb
  have hb : (s[i].toNat : Int) ≤ 255 := by have := (s[i]).toNat_lt; omega
  have H0 : Hid (Txt.at' (s.data.toList.drop i) 0 = s[i].toNat) := Txt.at_get s i 0 hi
  have Hl : Hid ((s.data.toList.drop i).length = s.size - i) := by unfold Hid; rw [List.length_drop, ← Lib.size_eq]
  have HL : Hid (Txt.lead (s.data.toList.drop i) 4 (s[i].toNat % 8) 65536) := by
    have e : (s[i].toNat : Int) / 8 = 30 := by simpa using hq
    unfold Hid Txt.lead; rw [H0.out]; omega
  by_cases hsh : (s.size : Int) < (i : Int) + 4
  · go_enter Try.func20, Try.ntmps20
    go_wp2_with fail
    go_ret2
    rw [Txt.seq_short HL.out (by rw [Hl.out]; omega) (by rw [Hl.out]; omega)]
    exact ⟨rfl, rfl⟩
  · go_enter Try.func20, Try.ntmps20
    go_wp2_with fail
    go_loop [8, 10] (fun r k => ∃ m : Nat, 1 ≤ m ∧ m ≤ 4 ∧ k = .int .i64 m ∧ r = .int .i64 (Txt.acc (s.data.toList.drop i) (s[i].toNat % 8) (m - 1) : Nat) ∧ ∀ j, 1 ≤ j → j < m → Txt.at' (s.data.toList.drop i) j / 64 = 2) (fun _ k => 4 - (intOf k).toNat)
    case atStart => exact ⟨1, by omega, by omega, rfl, rfl, fun j h1 h2 => by omega⟩
    case round =>
      obtain ⟨m, hm1, hm2, rfl, rfl, hc0⟩ := hrel
      have HC : Hid (∀ j, 1 ≤ j → j < m → Txt.at' (s.data.toList.drop i) j / 64 = 2) := hc0
      clear hc0
      have ha0 : Txt.acc (s.data.toList.drop i) (s[i].toNat % 8) (m - 1) < 8388608 := Txt.acc_lt _ _ _ (by omega) (by omega)
      by_cases hlt : m < 4
      · have hin : i + m < s.size := by omega
        have hb2 : (s[i + m].toNat : Int) ≤ 255 := by have := (s[i + m]).toNat_lt; omega
        have HA : Hid (Txt.at' (s.data.toList.drop i) m = s[i + m].toNat) := Txt.at_get s i m hin
        have HN : Hid (Txt.acc (s.data.toList.drop i) (s[i].toNat % 8) (m + 1 - 1) = Txt.acc (s.data.toList.drop i) (s[i].toNat % 8) (m - 1) * 64 + s[i + m].toNat % 64) := by
          unfold Hid
          obtain ⟨m', rfl⟩ : ∃ m', m = m' + 1 := ⟨m - 1, by omega⟩
          rw [← HA.out]; rfl
        go_wp2_with fail
        · have e : ¬ (s[i + m].toNat : Int) / 64 = 2 := by simpa using ‹((s[i + m].toNat : Int) / 64 != 2) = true›
          go_ret2
          rw [Txt.seq_cut HL.out hm1 hlt (by rw [HA.out]; omega)]
          exact ⟨rfl, rfl⟩
        · have e : (s[i + m].toNat : Int) / 64 = 2 := by simpa using ‹((s[i + m].toNat : Int) / 64 != 2) = false›
          refine ⟨?_, ?_⟩
          · refine ⟨m + 1, by omega, by omega, by go_num, by rw [HN.out]; go_num, fun j h1 h2 => ?_⟩
            rcases (by omega : j < m ∨ j = m) with h | rfl
            · exact HC.out j h1 h
            · rw [HA.out]; omega
          · simp [intOf]; omega
      · have HF : Hid (Txt.seq (s.data.toList.drop i) = _) := Txt.seq_full HL.out (fun j h1 h2 => HC.out j h1 (by omega))
        have hN : 4 = m := by omega
        have HM : Hid (((4 : Nat) : Int) = (m : Int)) := by unfold Hid; omega
        rw [hN] at HF
        clear hN
        go_wp2_with fail
        all_goals
          go_ret2
          rw [HF.out]
          first
            | (rw [if_pos (by omega)]; exact ⟨rfl, rfl⟩)
            | (rw [if_neg (by omega)]; exact ⟨ret_two rfl HM.out, rfl⟩)

set_option maxHeartbeats 1000000 in
set_option maxRecDepth 100000 in
/-- the reference's Rune: the sequence at a place of a string, or two zeros -/
theorem rune_any (s : ByteArray) (i : Nat) (w : World) (hs : s.size ≤ 9223372036854775000) (hi : i < s.size) :
    Calls Try.prog 20 #[.string s, .int .i64 i] w fun e w' => e = .returned (.tuple #[.int .i64 ((Txt.seq (s.data.toList.drop i)).getD (0, 0)).1, .int .i64 ((Txt.seq (s.data.toList.drop i)).getD (0, 0)).2]) ∧ w' = w := by
  have hwb := wb
  have hb : (s[i].toNat : Int) ≤ 255 := by have := (s[i]).toNat_lt; omega
  have H0 : Hid (Txt.at' (s.data.toList.drop i) 0 = s[i].toNat) := Txt.at_get s i 0 hi
  by_cases h1 : (s[i].toNat : Int) < 128
  · go_enter Try.func20, Try.ntmps20
    go_wp2_with fail
    go_ret2
    rw [Txt.seq_ascii (by rw [H0.out]; omega), H0.out]
    exact ⟨rfl, rfl⟩
  by_cases h2 : ((s[i].toNat : Int) / 32 == 6) = true
  · exact rune_2 s i w hs hi h1 h2
  rw [Bool.not_eq_true] at h2
  by_cases h3 : ((s[i].toNat : Int) / 16 == 14) = true
  · exact rune_3 s i w hs hi h1 h2 h3
  rw [Bool.not_eq_true] at h3
  by_cases h4 : ((s[i].toNat : Int) / 8 == 30) = true
  · exact rune_4 s i w hs hi h1 h2 h3 h4
  rw [Bool.not_eq_true] at h4
  have HO : Hid (Txt.seq (s.data.toList.drop i) = none) := by
    have e2 : ¬ (s[i].toNat : Int) / 32 = 6 := by simpa using h2
    have e3 : ¬ (s[i].toNat : Int) / 16 = 14 := by simpa using h3
    have e4 : ¬ (s[i].toNat : Int) / 8 = 30 := by simpa using h4
    exact Txt.seq_odd (by rw [H0.out]; omega) (by rw [H0.out]; omega) (by rw [H0.out]; omega) (by rw [H0.out]; omega)
  go_enter Try.func20, Try.ntmps20
  go_wp2_with fail
  go_ret2
  rw [HO.out]
  exact ⟨rfl, rfl⟩

end Go.Proofs.Ytlknklpjlljfjaa
