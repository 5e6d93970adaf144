/-
  The contracts of the reference's Rune, Check and Name.
-/
import Derived.Test.YtnkkiepoljbhlaaNameW
namespace Go.Proofs.Ytnkkiepoljbhlaa
open Go.RowKit

theorem wb (b : UInt8) : wrap64 (b.toNat : Int) = (b.toNat : Int) := by
  have := b.toNat_lt
  unfold wrap64
  omega
theorem wq (b : UInt8) (n : Nat) : wrap64 ((b.toNat : Int).tdiv n) = ((b.toNat / n : Nat) : Int) := by
  have := b.toNat_lt
  have e : ((b.toNat : Int).tdiv n) = ((b.toNat / n : Nat) : Int) := rfl
  have : b.toNat / n ≤ b.toNat := Nat.div_le_self _ _
  rw [e]
  generalize b.toNat / n = q at *
  unfold wrap64
  omega
theorem wm (b : UInt8) (n : Nat) : ((b.toNat : Int).tmod n) = ((b.toNat % n : Nat) : Int) := rfl

theorem ret_two {a b c d : Int} (h : a = c) (h' : b = d) : Ending.returned (.tuple #[.int .i64 a, .int .i64 b]) = .returned (.tuple #[.int .i64 c, .int .i64 d]) := by rw [h, h']


set_option maxHeartbeats 1000000 in
set_option maxRecDepth 100000 in
theorem rune_2 (s : ByteArray) (i : Nat) (w : World) (hs : s.size ≤ 9223372036854775000) (hi : i < s.size) (h1 : ¬ (s[i].toNat : Int) < 128) (hq : ((s[i].toNat : Int) / 32 == 6) = true) :
    Calls Try.prog 53 #[.string s, .int .i64 i] w fun e w' => e = .returned (.tuple #[.int .i64 ((Txt.seq (s.data.toList.drop i)).getD (0, 0)).1, .int .i64 ((Txt.seq (s.data.toList.drop i)).getD (0, 0)).2]) ∧ w' = w := by
  have hwb := wb
  have hb : (s[i].toNat : Int) ≤ 255 := by have := (s[i]).toNat_lt; omega
  have H0 : Hid (Txt.at' (s.data.toList.drop i) 0 = s[i].toNat) := Txt.at_get s i 0 hi
  have Hl : Hid ((s.data.toList.drop i).length = s.size - i) := by unfold Hid; rw [List.length_drop, ← Lib.size_eq]
  have HL : Hid (Txt.lead (s.data.toList.drop i) 2 (s[i].toNat % 32) 128) := by
    have e : (s[i].toNat : Int) / 32 = 6 := by simpa using hq
    unfold Hid Txt.lead; rw [H0.out]; omega
  by_cases hsh : (s.size : Int) < (i : Int) + 2
  · go_enter Try.func53, Try.ntmps53
    go_wp2_with fail
    go_ret2
    rw [Txt.seq_short HL.out (by rw [Hl.out]; omega) (by rw [Hl.out]; omega)]
    exact ⟨rfl, rfl⟩
  · go_enter Try.func53, Try.ntmps53
    go_wp2_with fail
    go_loop [8, 10] (fun r k => ∃ m : Nat, 1 ≤ m ∧ m ≤ 2 ∧ k = .int .i64 m ∧ r = .int .i64 (Txt.acc (s.data.toList.drop i) (s[i].toNat % 32) (m - 1) : Nat) ∧ ∀ j, 1 ≤ j → j < m → Txt.at' (s.data.toList.drop i) j / 64 = 2) (fun _ k => 2 - (intOf k).toNat)
    case atStart => exact ⟨1, by omega, by omega, rfl, rfl, fun j h1 h2 => by omega⟩
    case round =>
      obtain ⟨m, hm1, hm2, rfl, rfl, hc0⟩ := hrel
      have HC : Hid (∀ j, 1 ≤ j → j < m → Txt.at' (s.data.toList.drop i) j / 64 = 2) := hc0
      clear hc0
      have ha0 : Txt.acc (s.data.toList.drop i) (s[i].toNat % 32) (m - 1) < 8388608 := Txt.sacc_lt _ _ _ (by omega) (by omega)
      by_cases hlt : m < 2
      · have hin : i + m < s.size := by omega
        have hb2 : (s[i + m].toNat : Int) ≤ 255 := by have := (s[i + m]).toNat_lt; omega
        have HA : Hid (Txt.at' (s.data.toList.drop i) m = s[i + m].toNat) := Txt.at_get s i m hin
        have HN : Hid (Txt.acc (s.data.toList.drop i) (s[i].toNat % 32) (m + 1 - 1) = Txt.acc (s.data.toList.drop i) (s[i].toNat % 32) (m - 1) * 64 + s[i + m].toNat % 64) := by
          unfold Hid
          obtain ⟨m', rfl⟩ : ∃ m', m = m' + 1 := ⟨m - 1, by omega⟩
          rw [← HA.out]; rfl
        go_wp2_with fail
        · have e : ¬ (s[i + m].toNat : Int) / 64 = 2 := by simpa using ‹((s[i + m].toNat : Int) / 64 != 2) = true›
          go_ret2
          rw [Txt.seq_cut HL.out hm1 hlt (by rw [HA.out]; omega)]
          exact ⟨rfl, rfl⟩
        · have e : (s[i + m].toNat : Int) / 64 = 2 := by simpa using ‹((s[i + m].toNat : Int) / 64 != 2) = false›
          refine ⟨?_, ?_⟩
          · refine ⟨m + 1, by omega, by omega, by go_num, by rw [HN.out]; go_num, fun j h1 h2 => ?_⟩
            rcases (by omega : j < m ∨ j = m) with h | rfl
            · exact HC.out j h1 h
            · rw [HA.out]; omega
          · simp [intOf]; omega
      · have HF : Hid (Txt.seq (s.data.toList.drop i) = _) := Txt.seq_full HL.out (fun j h1 h2 => HC.out j h1 (by omega))
        have hN : 2 = m := by omega
        have HM : Hid (((2 : Nat) : Int) = (m : Int)) := by unfold Hid; omega
        rw [hN] at HF
        clear hN
        go_wp2_with fail
        all_goals
          go_ret2
          rw [HF.out]
          first
            | (rw [if_pos (by omega)]; exact ⟨rfl, rfl⟩)
            | (rw [if_neg (by omega)]; exact ⟨ret_two rfl HM.out, rfl⟩)

set_option maxHeartbeats 1000000 in
set_option maxRecDepth 100000 in
theorem rune_3 (s : ByteArray) (i : Nat) (w : World) (hs : s.size ≤ 9223372036854775000) (hi : i < s.size) (h1 : ¬ (s[i].toNat : Int) < 128) (h2 : ((s[i].toNat : Int) / 32 == 6) = false) (hq : ((s[i].toNat : Int) / 16 == 14) = true) :
    Calls Try.prog 53 #[.string s, .int .i64 i] w fun e w' => e = .returned (.tuple #[.int .i64 ((Txt.seq (s.data.toList.drop i)).getD (0, 0)).1, .int .i64 ((Txt.seq (s.data.toList.drop i)).getD (0, 0)).2]) ∧ w' = w := by
  have hwb := wb
  have hb : (s[i].toNat : Int) ≤ 255 := by have := (s[i]).toNat_lt; omega
  have H0 : Hid (Txt.at' (s.data.toList.drop i) 0 = s[i].toNat) := Txt.at_get s i 0 hi
  have Hl : Hid ((s.data.toList.drop i).length = s.size - i) := by unfold Hid; rw [List.length_drop, ← Lib.size_eq]
  have HL : Hid (Txt.lead (s.data.toList.drop i) 3 (s[i].toNat % 16) 2048) := by
    have e : (s[i].toNat : Int) / 16 = 14 := by simpa using hq
    unfold Hid Txt.lead; rw [H0.out]; omega
  by_cases hsh : (s.size : Int) < (i : Int) + 3
  · go_enter Try.func53, Try.ntmps53
    go_wp2_with fail
    go_ret2
    rw [Txt.seq_short HL.out (by rw [Hl.out]; omega) (by rw [Hl.out]; omega)]
    exact ⟨rfl, rfl⟩
  · go_enter Try.func53, Try.ntmps53
    go_wp2_with fail
    go_loop [8, 10] (fun r k => ∃ m : Nat, 1 ≤ m ∧ m ≤ 3 ∧ k = .int .i64 m ∧ r = .int .i64 (Txt.acc (s.data.toList.drop i) (s[i].toNat % 16) (m - 1) : Nat) ∧ ∀ j, 1 ≤ j → j < m → Txt.at' (s.data.toList.drop i) j / 64 = 2) (fun _ k => 3 - (intOf k).toNat)
    case atStart => exact ⟨1, by omega, by omega, rfl, rfl, fun j h1 h2 => by omega⟩
    case round =>
      obtain ⟨m, hm1, hm2, rfl, rfl, hc0⟩ := hrel
      have HC : Hid (∀ j, 1 ≤ j → j < m → Txt.at' (s.data.toList.drop i) j / 64 = 2) := hc0
      clear hc0
      have ha0 : Txt.acc (s.data.toList.drop i) (s[i].toNat % 16) (m - 1) < 8388608 := Txt.sacc_lt _ _ _ (by omega) (by omega)
      by_cases hlt : m < 3
      · have hin : i + m < s.size := by omega
        have hb2 : (s[i + m].toNat : Int) ≤ 255 := by have := (s[i + m]).toNat_lt; omega
        have HA : Hid (Txt.at' (s.data.toList.drop i) m = s[i + m].toNat) := Txt.at_get s i m hin
        have HN : Hid (Txt.acc (s.data.toList.drop i) (s[i].toNat % 16) (m + 1 - 1) = Txt.acc (s.data.toList.drop i) (s[i].toNat % 16) (m - 1) * 64 + s[i + m].toNat % 64) := by
          unfold Hid
          obtain ⟨m', rfl⟩ : ∃ m', m = m' + 1 := ⟨m - 1, by omega⟩
          rw [← HA.out]; rfl
        go_wp2_with fail
        · have e : ¬ (s[i + m].toNat : Int) / 64 = 2 := by simpa using ‹((s[i + m].toNat : Int) / 64 != 2) = true›
          go_ret2
          rw [Txt.seq_cut HL.out hm1 hlt (by rw [HA.out]; omega)]
          exact ⟨rfl, rfl⟩
        · have e : (s[i + m].toNat : Int) / 64 = 2 := by simpa using ‹((s[i + m].toNat : Int) / 64 != 2) = false›
          refine ⟨?_, ?_⟩
          · refine ⟨m + 1, by omega, by omega, by go_num, by rw [HN.out]; go_num, fun j h1 h2 => ?_⟩
            rcases (by omega : j < m ∨ j = m) with h | rfl
            · exact HC.out j h1 h
            · rw [HA.out]; omega
          · simp [intOf]; omega
      · have HF : Hid (Txt.seq (s.data.toList.drop i) = _) := Txt.seq_full HL.out (fun j h1 h2 => HC.out j h1 (by omega))
        have hN : 3 = m := by omega
        have HM : Hid (((3 : Nat) : Int) = (m : Int)) := by unfold Hid; omega
        rw [hN] at HF
        clear hN
        go_wp2_with fail
        all_goals
          go_ret2
          rw [HF.out]
          first
            | (rw [if_pos (by omega)]; exact ⟨rfl, rfl⟩)
            | (rw [if_neg (by omega)]; exact ⟨ret_two rfl HM.out, rfl⟩)

set_option maxHeartbeats 1000000 in
set_option maxRecDepth 100000 in
theorem rune_4 (s : ByteArray) (i : Nat) (w : World) (hs : s.size ≤ 9223372036854775000) (hi : i < s.size) (h1 : ¬ (s[i].toNat : Int) < 128) (h2 : ((s[i].toNat : Int) / 32 == 6) = false) (h3 : ((s[i].toNat : Int) / 16 == 14) = false) (hq : ((s[i].toNat : Int) / 8 == 30) = true) :
    Calls Try.prog 53 #[.string s, .int .i64 i] w fun e w' => e = .returned (.tuple #[.int .i64 ((Txt.seq (s.data.toList.drop i)).getD (0, 0)).1, .int .i64 ((Txt.seq (s.data.toList.drop i)).getD (0, 0)).2]) ∧ w' = w := by
  have hwb := wb
  have hb : (s[i].toNat : Int) ≤ 255 := by have := (s[i]).toNat_lt; omega
  have H0 : Hid (Txt.at' (s.data.toList.drop i) 0 = s[i].toNat) := Txt.at_get s i 0 hi
  have Hl : Hid ((s.data.toList.drop i).length = s.size - i) := by unfold Hid; rw [List.length_drop, ← Lib.size_eq]
  have HL : Hid (Txt.lead (s.data.toList.drop i) 4 (s[i].toNat % 8) 65536) := by
    have e : (s[i].toNat : Int) / 8 = 30 := by simpa using hq
    unfold Hid Txt.lead; rw [H0.out]; omega
  by_cases hsh : (s.size : Int) < (i : Int) + 4
  · go_enter Try.func53, Try.ntmps53
    go_wp2_with fail
    go_ret2
    rw [Txt.seq_short HL.out (by rw [Hl.out]; omega) (by rw [Hl.out]; omega)]
    exact ⟨rfl, rfl⟩
  · go_enter Try.func53, Try.ntmps53
    go_wp2_with fail
    go_loop [8, 10] (fun r k => ∃ m : Nat, 1 ≤ m ∧ m ≤ 4 ∧ k = .int .i64 m ∧ r = .int .i64 (Txt.acc (s.data.toList.drop i) (s[i].toNat % 8) (m - 1) : Nat) ∧ ∀ j, 1 ≤ j → j < m → Txt.at' (s.data.toList.drop i) j / 64 = 2) (fun _ k => 4 - (intOf k).toNat)
    case atStart => exact ⟨1, by omega, by omega, rfl, rfl, fun j h1 h2 => by omega⟩
    case round =>
      obtain ⟨m, hm1, hm2, rfl, rfl, hc0⟩ := hrel
      have HC : Hid (∀ j, 1 ≤ j → j < m → Txt.at' (s.data.toList.drop i) j / 64 = 2) := hc0
      clear hc0
      have ha0 : Txt.acc (s.data.toList.drop i) (s[i].toNat % 8) (m - 1) < 8388608 := Txt.sacc_lt _ _ _ (by omega) (by omega)
      by_cases hlt : m < 4
      · have hin : i + m < s.size := by omega
        have hb2 : (s[i + m].toNat : Int) ≤ 255 := by have := (s[i + m]).toNat_lt; omega
        have HA : Hid (Txt.at' (s.data.toList.drop i) m = s[i + m].toNat) := Txt.at_get s i m hin
        have HN : Hid (Txt.acc (s.data.toList.drop i) (s[i].toNat % 8) (m + 1 - 1) = Txt.acc (s.data.toList.drop i) (s[i].toNat % 8) (m - 1) * 64 + s[i + m].toNat % 64) := by
          unfold Hid
          obtain ⟨m', rfl⟩ : ∃ m', m = m' + 1 := ⟨m - 1, by omega⟩
          rw [← HA.out]; rfl
        go_wp2_with fail
        · have e : ¬ (s[i + m].toNat : Int) / 64 = 2 := by simpa using ‹((s[i + m].toNat : Int) / 64 != 2) = true›
          go_ret2
          rw [Txt.seq_cut HL.out hm1 hlt (by rw [HA.out]; omega)]
          exact ⟨rfl, rfl⟩
        · have e : (s[i + m].toNat : Int) / 64 = 2 := by simpa using ‹((s[i + m].toNat : Int) / 64 != 2) = false›
          refine ⟨?_, ?_⟩
          · refine ⟨m + 1, by omega, by omega, by go_num, by rw [HN.out]; go_num, fun j h1 h2 => ?_⟩
            rcases (by omega : j < m ∨ j = m) with h | rfl
            · exact HC.out j h1 h
            · rw [HA.out]; omega
          · simp [intOf]; omega
      · have HF : Hid (Txt.seq (s.data.toList.drop i) = _) := Txt.seq_full HL.out (fun j h1 h2 => HC.out j h1 (by omega))
        have hN : 4 = m := by omega
        have HM : Hid (((4 : Nat) : Int) = (m : Int)) := by unfold Hid; omega
        rw [hN] at HF
        clear hN
        go_wp2_with fail
        all_goals
          go_ret2
          rw [HF.out]
          first
            | (rw [if_pos (by omega)]; exact ⟨rfl, rfl⟩)
            | (rw [if_neg (by omega)]; exact ⟨ret_two rfl HM.out, rfl⟩)

set_option maxHeartbeats 1000000 in
set_option maxRecDepth 100000 in
/-- the reference's Rune: the sequence at a place of a string, or two zeros -/
theorem rune_any (s : ByteArray) (i : Nat) (w : World) (hs : s.size ≤ 9223372036854775000) (hi : i < s.size) :
    Calls Try.prog 53 #[.string s, .int .i64 i] w fun e w' => e = .returned (.tuple #[.int .i64 ((Txt.seq (s.data.toList.drop i)).getD (0, 0)).1, .int .i64 ((Txt.seq (s.data.toList.drop i)).getD (0, 0)).2]) ∧ w' = w := by
  have hwb := wb
  have hb : (s[i].toNat : Int) ≤ 255 := by have := (s[i]).toNat_lt; omega
  have H0 : Hid (Txt.at' (s.data.toList.drop i) 0 = s[i].toNat) := Txt.at_get s i 0 hi
  by_cases h1 : (s[i].toNat : Int) < 128
  · go_enter Try.func53, Try.ntmps53
    go_wp2_with fail
    go_ret2
    rw [Txt.seq_ascii (by rw [H0.out]; omega), H0.out]
    exact ⟨rfl, rfl⟩
  by_cases h2 : ((s[i].toNat : Int) / 32 == 6) = true
  · exact rune_2 s i w hs hi h1 h2
  rw [Bool.not_eq_true] at h2
  by_cases h3 : ((s[i].toNat : Int) / 16 == 14) = true
  · exact rune_3 s i w hs hi h1 h2 h3
  rw [Bool.not_eq_true] at h3
  by_cases h4 : ((s[i].toNat : Int) / 8 == 30) = true
  · exact rune_4 s i w hs hi h1 h2 h3 h4
  rw [Bool.not_eq_true] at h4
  have HO : Hid (Txt.seq (s.data.toList.drop i) = none) := by
    have e2 : ¬ (s[i].toNat : Int) / 32 = 6 := by simpa using h2
    have e3 : ¬ (s[i].toNat : Int) / 16 = 14 := by simpa using h3
    have e4 : ¬ (s[i].toNat : Int) / 8 = 30 := by simpa using h4
    exact Txt.seq_odd (by rw [H0.out]; omega) (by rw [H0.out]; omega) (by rw [H0.out]; omega) (by rw [H0.out]; omega)
  go_enter Try.func53, Try.ntmps53
  go_wp2_with fail
  go_ret2
  rw [HO.out]
  exact ⟨rfl, rfl⟩

theorem rune_none (s : ByteArray) (i : Nat) (w : World) (hs : s.size ≤ 9223372036854775000) (hi : i < s.size) (h : Txt.seq (s.data.toList.drop i) = none) :
    Calls Try.prog 53 #[.string s, .int .i64 i] w fun e w' => e = .returned (.tuple #[.int .i64 0, .int .i64 0]) ∧ w' = w := by
  have := rune_any s i w hs hi
  rw [h] at this
  exact this
theorem rune_some (s : ByteArray) (i : Nat) (w : World) (hs : s.size ≤ 9223372036854775000) (hi : i < s.size) (r n : Nat) (h : Txt.seq (s.data.toList.drop i) = some (r, n)) :
    Calls Try.prog 53 #[.string s, .int .i64 i] w fun e w' => e = .returned (.tuple #[.int .i64 r, .int .i64 n]) ∧ w' = w := by
  have := rune_any s i w hs hi
  rw [h] at this
  exact this

def ret3 (x : Nat × Nat × Nat) : Ending := .returned (.tuple #[.int .i64 x.1, .int .i64 x.2.1, .int .i64 x.2.2])

set_option maxHeartbeats 1000000 in
set_option maxRecDepth 100000 in
theorem rcheck_any (s : ByteArray) (w : World) (hs : s.size ≤ 9223372036854775000) :
    Calls Try.prog 52 #[.string s] w fun e w' => e = ret3 (Txt.check s) ∧ w' = w := by
  go_enter Try.func52, Try.ntmps52
  go_wp2_with fail
  go_loop [5, 6] (fun c i => ∃ m pos f : Nat, pos ≤ s.size ∧ c = .int .i64 m ∧ i = .int .i64 pos ∧ m ≤ pos ∧ s.size ≤ pos + f ∧ Txt.check s = Txt.chk f (s.data.toList.drop pos) pos m) (fun _ i => s.size - (intOf i).toNat)
  case atStart => exact ⟨0, 0, s.size, by omega, rfl, rfl, by omega, by omega, rfl⟩
  case round =>
    obtain ⟨m, pos, f, hpl, rfl, rfl, hmp, hf, hc⟩ := hrel
    have HC : Hid (Txt.check s = Txt.chk f (s.data.toList.drop pos) pos m) := hc
    clear hc
    by_cases hp : pos < s.size
    · obtain ⟨f, rfl⟩ : ∃ f', f = f' + 1 := ⟨f - 1, by omega⟩
      have hne := drop_ne s pos hp
      have hnl : (s.data.toList.drop pos).length ≠ 0 := by rw [drop_len]; omega
      have HNE : Hid (s.data.toList.drop pos ≠ []) := hne
      have HNL : Hid ((s.data.toList.drop pos).length ≠ 0) := hnl
      clear hne hnl
      cases hq : Txt.seq (s.data.toList.drop pos) with
      | none =>
        have HQ : Hid (Txt.seq (s.data.toList.drop pos) = none) := hq
        clear hq
        go_wp2_with (go_at_call 53; refine (rune_none s pos _ hs hp HQ.out).mono ?_; rintro e w' ⟨rfl, rfl⟩)
        go_ret3
        rw [HC.out, Txt.chk_bad f _ _ _ HNL.out HQ.out]
        exact ⟨rfl, rfl⟩
      | some x =>
        obtain ⟨r, n⟩ := x
        have HQ : Hid (Txt.seq (s.data.toList.drop pos) = some (r, n)) := hq
        clear hq
        have hwd := Txt.seq_width HNE.out HQ.out
        rw [drop_len] at hwd
        have hru := Txt.seq_rune HQ.out
        have hn0 : ((n : Int) == 0) = false := by simp; omega
        by_cases hr : r < 32 ∨ r = 127
        · have HF := Txt.chk_form f _ pos m r n HNL.out HQ.out hr
          have HF' : Hid (Txt.chk (f + 1) (s.data.toList.drop pos) pos m = (0, pos, 4)) := HF
          clear HF
          rcases hr with hr | hr
          · go_wp2_with (go_at_call 53; refine (rune_some s pos _ hs hp r n HQ.out).mono ?_; rintro e w' ⟨rfl, rfl⟩)
            go_ret3
            rw [HC.out, HF'.out]
            exact ⟨rfl, rfl⟩
          · have h127 : ((r : Int) == 127) = true := by simp; omega
            have h32 : ¬ ((r : Int) < 32) := by omega
            clear hr
            go_wp2_with (go_at_call 53; refine (rune_some s pos _ hs hp r n HQ.out).mono ?_; rintro e w' ⟨rfl, rfl⟩)
            go_ret3
            rw [HC.out, HF'.out]
            exact ⟨rfl, rfl⟩
        · have HF := Txt.chk_on f _ pos m r n HNL.out HQ.out hr
          have HF' : Hid (Txt.chk (f + 1) (s.data.toList.drop pos) pos m = Txt.chk f ((s.data.toList.drop pos).drop n) (pos + n) (m + 1)) := HF
          clear HF
          have h127 : ((r : Int) == 127) = false := by simp; omega
          have h32 : ¬ ((r : Int) < 32) := by omega
          clear hr
          go_wp2_with (go_at_call 53; refine (rune_some s pos _ hs hp r n HQ.out).mono ?_; rintro e w' ⟨rfl, rfl⟩)
          refine ⟨?_, ?_⟩
          · refine ⟨m + 1, pos + n, f, by omega, by go_num, by go_num, by omega, by omega, ?_⟩
            rw [HC.out, HF'.out, List.drop_drop]
          · simp [intOf]; omega
    · have HE : Hid (Txt.chk f (s.data.toList.drop pos) pos m = (m, 0, 0)) := Txt.chk_end f _ pos m (by rw [drop_len]; omega)
      go_wp2_with fail
      go_ret3
      rw [HC.out, HE.out]
      exact ⟨rfl, rfl⟩

theorem rcheck_at (s : ByteArray) (w : World) (hs : s.size ≤ 9223372036854775000) (c p er : Nat) (h : Txt.check s = (c, p, er)) :
    Calls Try.prog 52 #[.string s] w fun e w' => e = .returned (.tuple #[.int .i64 c, .int .i64 p, .int .i64 er]) ∧ w' = w := by
  have := rcheck_any s w hs
  rw [h] at this
  exact this

set_option maxHeartbeats 2000000 in
set_option maxRecDepth 100000 in
theorem rname_any (s : ByteArray) (w : World) (hs : s.size ≤ 9223372036854775000) :
    Calls Try.prog 28 #[.string s] w fun e w' => e = .returned (.bool (Txt.name s)) ∧ w' = w := by
  obtain ⟨c, p, er, hcs⟩ : ∃ c p er, Txt.check s = (c, p, er) := ⟨_, _, _, rfl⟩
  have HK : Hid (Txt.check s = (c, p, er)) := hcs
  clear hcs
  have HN : Hid (Txt.name s = if er = 0 ∧ 1 ≤ c ∧ c ≤ 16 then Txt.allIn s.size s.data.toList else false) := by
    unfold Hid; rw [Txt.name_eq]; unfold Txt.name2; rw [HK.out]
  by_cases her : er = 0
  · subst her
    by_cases hc1 : (c : Int) < 1
    · have HF : Hid (Txt.name s = false) := by unfold Hid; rw [HN.out, if_neg (by omega)]
      go_enter Try.func28, Try.ntmps28
      go_wp2_with (go_at_call 52; refine (rcheck_at s _ hs c p 0 HK.out).mono ?_; rintro e w' ⟨rfl, rfl⟩)
      go_ret
      exact ⟨ret_b HF.out.symm, rfl⟩
    by_cases hc2 : (16 : Int) < (c : Int)
    · have HF : Hid (Txt.name s = false) := by unfold Hid; rw [HN.out, if_neg (by omega)]
      go_enter Try.func28, Try.ntmps28
      go_wp2_with (go_at_call 52; refine (rcheck_at s _ hs c p 0 HK.out).mono ?_; rintro e w' ⟨rfl, rfl⟩)
      go_ret
      exact ⟨ret_b HF.out.symm, rfl⟩
    have HA : Hid (Txt.name s = Txt.allIn s.size s.data.toList) := by unfold Hid; rw [HN.out, if_pos (by omega)]
    have HZ : Hid ((Txt.chk s.size s.data.toList 0 0).2.2 = 0) := by unfold Hid; have := HK.out; unfold Txt.check at this; rw [this]
    go_enter Try.func28, Try.ntmps28
    go_wp2_with (go_at_call 52; refine (rcheck_at s _ hs c p 0 HK.out).mono ?_; rintro e w' ⟨rfl, rfl⟩)
    go_loop [6] (fun i => ∃ pos f m : Nat, pos ≤ s.size ∧ i = .int .i64 pos ∧ s.size ≤ pos + f ∧ Txt.name s = Txt.allIn f (s.data.toList.drop pos) ∧ (Txt.chk f (s.data.toList.drop pos) pos m).2.2 = 0) (fun i => s.size - (intOf i).toNat)
    case atStart => exact ⟨0, s.size, 0, by omega, rfl, by omega, HA.out, HZ.out⟩
    case round =>
      obtain ⟨pos, f, m, hpl, rfl, hf, hc, hz⟩ := hrel
      have HC : Hid (Txt.name s = Txt.allIn f (s.data.toList.drop pos)) := hc
      have HZ2 : Hid ((Txt.chk f (s.data.toList.drop pos) pos m).2.2 = 0) := hz
      clear hc hz
      by_cases hp : pos < s.size
      · obtain ⟨f, rfl⟩ : ∃ f', f = f' + 1 := ⟨f - 1, by omega⟩
        have HNE : Hid (s.data.toList.drop pos ≠ []) := drop_ne s pos hp
        have HNL : Hid ((s.data.toList.drop pos).length ≠ 0) := by unfold Hid; rw [drop_len]; omega
        obtain ⟨r, n, hq, hok⟩ := Txt.chk_ok_step HZ2.out HNL.out
        have HQ : Hid (Txt.seq (s.data.toList.drop pos) = some (r, n)) := hq
        have HOK : Hid ((Txt.chk f (s.data.toList.drop (pos + n)) (pos + n) (m + 1)).2.2 = 0) := by unfold Hid; rw [← List.drop_drop]; exact hok
        clear hq hok
        have hwd := Txt.seq_width HNE.out HQ.out
        rw [drop_len] at hwd
        have hru := Txt.seq_rune HQ.out
        have hns := Txt.allIn_some f _ r n HNL.out HQ.out
        by_cases hin : Txt.inN r = true
        · have HF : Hid (Txt.name s = Txt.allIn f (s.data.toList.drop (pos + n))) := by unfold Hid; rw [HC.out, hns, if_pos hin, List.drop_drop]
          clear hns
          simp only [Txt.inN, decide_eq_true_eq] at hin
          rcases hin with g | g | g | g | g
          all_goals
            go_wp2_with (go_at_call 53; refine (rune_some s pos _ hs hp r n HQ.out).mono ?_; rintro e w' ⟨rfl, rfl⟩)
            refine ⟨⟨pos + n, f, m + 1, by omega, by go_num, by omega, HF.out, HOK.out⟩, ?_⟩
            simp [intOf]; omega
        · have HF : Hid (Txt.name s = false) := by unfold Hid; rw [HC.out, hns, if_neg hin]
          clear hns
          rcases (by simp only [Txt.inN, decide_eq_true_eq] at hin; omega : r < 45 ∨ (46 ≤ r ∧ r ≤ 47) ∨ (58 ≤ r ∧ r ≤ 94) ∨ r = 96 ∨ (123 ≤ r ∧ r ≤ 944) ∨ 970 ≤ r) with g | g | g | g | g | g
          · clear hin
            have e45 : ((r : Int) == 45) = false := by simp; omega
            have e95 : ((r : Int) == 95) = false := by simp; omega
            go_wp2_with (go_at_call 53; refine (rune_some s pos _ hs hp r n HQ.out).mono ?_; rintro e w' ⟨rfl, rfl⟩)
            go_ret
            exact ⟨ret_b HF.out.symm, rfl⟩
          · clear hin
            have e45 : ((r : Int) == 45) = false := by simp; omega
            have e95 : ((r : Int) == 95) = false := by simp; omega
            go_wp2_with (go_at_call 53; refine (rune_some s pos _ hs hp r n HQ.out).mono ?_; rintro e w' ⟨rfl, rfl⟩)
            go_ret
            exact ⟨ret_b HF.out.symm, rfl⟩
          · clear hin
            have e45 : ((r : Int) == 45) = false := by simp; omega
            have e95 : ((r : Int) == 95) = false := by simp; omega
            have n57 : decide ((r : Int) ≤ 57) = false := by simp; omega
            go_wp2_with (go_at_call 53; refine (rune_some s pos _ hs hp r n HQ.out).mono ?_; rintro e w' ⟨rfl, rfl⟩)
            go_ret
            exact ⟨ret_b HF.out.symm, rfl⟩
          · clear hin
            have e45 : ((r : Int) == 45) = false := by simp; omega
            have e95 : ((r : Int) == 95) = false := by simp; omega
            have n57 : decide ((r : Int) ≤ 57) = false := by simp; omega
            go_wp2_with (go_at_call 53; refine (rune_some s pos _ hs hp r n HQ.out).mono ?_; rintro e w' ⟨rfl, rfl⟩)
            go_ret
            exact ⟨ret_b HF.out.symm, rfl⟩
          · clear hin
            have e45 : ((r : Int) == 45) = false := by simp; omega
            have e95 : ((r : Int) == 95) = false := by simp; omega
            have n57 : decide ((r : Int) ≤ 57) = false := by simp; omega
            have n122 : decide ((r : Int) ≤ 122) = false := by simp; omega
            go_wp2_with (go_at_call 53; refine (rune_some s pos _ hs hp r n HQ.out).mono ?_; rintro e w' ⟨rfl, rfl⟩)
            go_ret
            exact ⟨ret_b HF.out.symm, rfl⟩
          · clear hin
            have e45 : ((r : Int) == 45) = false := by simp; omega
            have e95 : ((r : Int) == 95) = false := by simp; omega
            have n57 : decide ((r : Int) ≤ 57) = false := by simp; omega
            have n122 : decide ((r : Int) ≤ 122) = false := by simp; omega
            go_wp2_with (go_at_call 53; refine (rune_some s pos _ hs hp r n HQ.out).mono ?_; rintro e w' ⟨rfl, rfl⟩)
            go_ret
            exact ⟨ret_b HF.out.symm, rfl⟩
      · have HE : Hid (Txt.name s = true) := by unfold Hid; rw [HC.out]; exact Txt.allIn_end f _ (by rw [drop_len]; omega)
        go_wp2_with fail
        go_ret
        exact ⟨ret_b HE.out.symm, rfl⟩
  · have HF : Hid (Txt.name s = false) := by unfold Hid; rw [HN.out, if_neg (by omega)]
    have e0 : ((er : Int) != 0) = true := by simp; omega
    clear her
    go_enter Try.func28, Try.ntmps28
    go_wp2_with (go_at_call 52; refine (rcheck_at s _ hs c p er HK.out).mono ?_; rintro e w' ⟨rfl, rfl⟩)
    go_ret
    exact ⟨ret_b HF.out.symm, rfl⟩


end Go.Proofs.Ytnkkiepoljbhlaa
