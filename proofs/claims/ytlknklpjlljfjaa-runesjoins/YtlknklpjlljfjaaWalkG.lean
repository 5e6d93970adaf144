/-
  The contract of the reference's Name: it answers what 'Txt.name' says; and of awake: true.
-/
import Derived.Test.YtlknklpjlljfjaaWalkF
namespace Go.Proofs.Ytlknklpjlljfjaa
open Go.RowKit

theorem rcheck_at (s : ByteArray) (w : World) (hs : s.size ≤ 9223372036854775000) (c p er : Nat) (h : Txt.check s = (c, p, er)) :
    Calls Try.prog 11 #[.string s] w fun e w' => e = .returned (.tuple #[.int .i64 c, .int .i64 p, .int .i64 er]) ∧ w' = w := by
  have := rcheck_any s w hs
  rw [h] at this
  exact this

set_option maxHeartbeats 2000000 in
set_option maxRecDepth 100000 in
theorem rname_any (s : ByteArray) (w : World) (hs : s.size ≤ 9223372036854775000) :
    Calls Try.prog 13 #[.string s] w fun e w' => e = .returned (.bool (Txt.name s)) ∧ w' = w := by
  obtain ⟨c, p, er, hcs⟩ : ∃ c p er, Txt.check s = (c, p, er) := ⟨_, _, _, rfl⟩
  have HK : Hid (Txt.check s = (c, p, er)) := hcs
  clear hcs
  have HN : Hid (Txt.name s = if er = 0 ∧ 1 ≤ c ∧ c ≤ 16 then Txt.allIn s.size s.data.toList else false) := by
    unfold Hid; rw [Txt.name_eq]; unfold Txt.name2; rw [HK.out]
  by_cases her : er = 0
  · subst her
    by_cases hc1 : (c : Int) < 1
    · have HF : Hid (Txt.name s = false) := by unfold Hid; rw [HN.out, if_neg (by omega)]
      go_enter Try.func13, Try.ntmps13
      go_wp2_with (go_at_call 11; refine (rcheck_at s _ hs c p 0 HK.out).mono ?_; rintro e w' ⟨rfl, rfl⟩)
      go_ret
      exact ⟨ret_b HF.out.symm, rfl⟩
    by_cases hc2 : (16 : Int) < (c : Int)
    · have HF : Hid (Txt.name s = false) := by unfold Hid; rw [HN.out, if_neg (by omega)]
      go_enter Try.func13, Try.ntmps13
      go_wp2_with (go_at_call 11; refine (rcheck_at s _ hs c p 0 HK.out).mono ?_; rintro e w' ⟨rfl, rfl⟩)
      go_ret
      exact ⟨ret_b HF.out.symm, rfl⟩
    have HA : Hid (Txt.name s = Txt.allIn s.size s.data.toList) := by unfold Hid; rw [HN.out, if_pos (by omega)]
    have HZ : Hid ((Txt.chk s.size s.data.toList 0 0).2.2 = 0) := by unfold Hid; have := HK.out; unfold Txt.check at this; rw [this]
    go_enter Try.func13, Try.ntmps13
    go_wp2_with (go_at_call 11; refine (rcheck_at s _ hs c p 0 HK.out).mono ?_; rintro e w' ⟨rfl, rfl⟩)
    go_loop [6] (fun i => ∃ pos f m : Nat, pos ≤ s.size ∧ i = .int .i64 pos ∧ s.size ≤ pos + f ∧ Txt.name s = Txt.allIn f (s.data.toList.drop pos) ∧ (Txt.chk f (s.data.toList.drop pos) pos m).2.2 = 0) (fun i => s.size - (intOf i).toNat)
    case atStart => exact ⟨0, s.size, 0, by omega, rfl, by omega, HA.out, HZ.out⟩
    case round =>
      obtain ⟨pos, f, m, hpl, rfl, hf, hc, hz⟩ := hrel
      have HC : Hid (Txt.name s = Txt.allIn f (s.data.toList.drop pos)) := hc
      have HZ2 : Hid ((Txt.chk f (s.data.toList.drop pos) pos m).2.2 = 0) := hz
      clear hc hz
      by_cases hp : pos < s.size
      · obtain ⟨f, rfl⟩ : ∃ f', f = f' + 1 := ⟨f - 1, by omega⟩
        have HNE : Hid (s.data.toList.drop pos ≠ []) := drop_ne s pos hp
        have HNL : Hid ((s.data.toList.drop pos).length ≠ 0) := by unfold Hid; rw [drop_len]; omega
        obtain ⟨r, n, hq, hok⟩ := Txt.chk_ok_step HZ2.out HNL.out
        have HQ : Hid (Txt.seq (s.data.toList.drop pos) = some (r, n)) := hq
        have HOK : Hid ((Txt.chk f (s.data.toList.drop (pos + n)) (pos + n) (m + 1)).2.2 = 0) := by unfold Hid; rw [← List.drop_drop]; exact hok
        clear hq hok
        have hwd := Txt.seq_width HNE.out HQ.out
        rw [drop_len] at hwd
        have hru := Txt.seq_rune HQ.out
        have hns := Txt.allIn_some f _ r n HNL.out HQ.out
        by_cases hin : Txt.inN r = true
        · have HF : Hid (Txt.name s = Txt.allIn f (s.data.toList.drop (pos + n))) := by unfold Hid; rw [HC.out, hns, if_pos hin, List.drop_drop]
          clear hns
          simp only [Txt.inN, decide_eq_true_eq] at hin
          rcases hin with g | g | g | g | g
          all_goals
            go_wp2_with (go_at_call 20; refine (rune_some s pos _ hs hp r n HQ.out).mono ?_; rintro e w' ⟨rfl, rfl⟩)
            refine ⟨⟨pos + n, f, m + 1, by omega, by go_num, by omega, HF.out, HOK.out⟩, ?_⟩
            simp [intOf]; omega
        · have HF : Hid (Txt.name s = false) := by unfold Hid; rw [HC.out, hns, if_neg hin]
          clear hns
          rcases (by simp only [Txt.inN, decide_eq_true_eq] at hin; omega : r < 45 ∨ (46 ≤ r ∧ r ≤ 47) ∨ (58 ≤ r ∧ r ≤ 94) ∨ r = 96 ∨ (123 ≤ r ∧ r ≤ 944) ∨ 970 ≤ r) with g | g | g | g | g | g
          · clear hin
            have e45 : ((r : Int) == 45) = false := by simp; omega
            have e95 : ((r : Int) == 95) = false := by simp; omega
            go_wp2_with (go_at_call 20; refine (rune_some s pos _ hs hp r n HQ.out).mono ?_; rintro e w' ⟨rfl, rfl⟩)
            go_ret
            exact ⟨ret_b HF.out.symm, rfl⟩
          · clear hin
            have e45 : ((r : Int) == 45) = false := by simp; omega
            have e95 : ((r : Int) == 95) = false := by simp; omega
            go_wp2_with (go_at_call 20; refine (rune_some s pos _ hs hp r n HQ.out).mono ?_; rintro e w' ⟨rfl, rfl⟩)
            go_ret
            exact ⟨ret_b HF.out.symm, rfl⟩
          · clear hin
            have e45 : ((r : Int) == 45) = false := by simp; omega
            have e95 : ((r : Int) == 95) = false := by simp; omega
            have n57 : decide ((r : Int) ≤ 57) = false := by simp; omega
            go_wp2_with (go_at_call 20; refine (rune_some s pos _ hs hp r n HQ.out).mono ?_; rintro e w' ⟨rfl, rfl⟩)
            go_ret
            exact ⟨ret_b HF.out.symm, rfl⟩
          · clear hin
            have e45 : ((r : Int) == 45) = false := by simp; omega
            have e95 : ((r : Int) == 95) = false := by simp; omega
            have n57 : decide ((r : Int) ≤ 57) = false := by simp; omega
            go_wp2_with (go_at_call 20; refine (rune_some s pos _ hs hp r n HQ.out).mono ?_; rintro e w' ⟨rfl, rfl⟩)
            go_ret
            exact ⟨ret_b HF.out.symm, rfl⟩
          · clear hin
            have e45 : ((r : Int) == 45) = false := by simp; omega
            have e95 : ((r : Int) == 95) = false := by simp; omega
            have n57 : decide ((r : Int) ≤ 57) = false := by simp; omega
            have n122 : decide ((r : Int) ≤ 122) = false := by simp; omega
            go_wp2_with (go_at_call 20; refine (rune_some s pos _ hs hp r n HQ.out).mono ?_; rintro e w' ⟨rfl, rfl⟩)
            go_ret
            exact ⟨ret_b HF.out.symm, rfl⟩
          · clear hin
            have e45 : ((r : Int) == 45) = false := by simp; omega
            have e95 : ((r : Int) == 95) = false := by simp; omega
            have n57 : decide ((r : Int) ≤ 57) = false := by simp; omega
            have n122 : decide ((r : Int) ≤ 122) = false := by simp; omega
            go_wp2_with (go_at_call 20; refine (rune_some s pos _ hs hp r n HQ.out).mono ?_; rintro e w' ⟨rfl, rfl⟩)
            go_ret
            exact ⟨ret_b HF.out.symm, rfl⟩
      · have HE : Hid (Txt.name s = true) := by unfold Hid; rw [HC.out]; exact Txt.allIn_end f _ (by rw [drop_len]; omega)
        go_wp2_with fail
        go_ret
        exact ⟨ret_b HE.out.symm, rfl⟩
  · have HF : Hid (Txt.name s = false) := by unfold Hid; rw [HN.out, if_neg (by omega)]
    have e0 : ((er : Int) != 0) = true := by simp; omega
    clear her
    go_enter Try.func13, Try.ntmps13
    go_wp2_with (go_at_call 11; refine (rcheck_at s _ hs c p er HK.out).mono ?_; rintro e w' ⟨rfl, rfl⟩)
    go_ret
    exact ⟨ret_b HF.out.symm, rfl⟩

theorem name_is (s : ByteArray) (b : Bool) (w : World) (hs : s.size ≤ 9223372036854775000) (h : Txt.name s = b) :
    Calls Try.prog 12 #[.string s] w fun e w' => e = .returned (.bool b) ∧ Below w.heap.size w w' := by
  refine (name_any s w hs).mono ?_
  rintro e w' ⟨rfl, pos, rfl⟩
  exact ⟨ret_b h, iter_below w s pos⟩

theorem words_at (s : ByteArray) (w : World) (hs : s.size ≤ 4398046511104) (ws : List (List UInt8)) (p er : Nat) (h : Txt.words s = (ws, p, er)) :
    Calls Try.prog 14 #[.string s] w fun e w' => ∃ v, e = .returned (.tuple #[v, .int .i64 p, .int .i64 er]) ∧ w'.ownsRow w.heap.size 9 1 v ws.length (ws.map strV) ∧ Below w.heap.size w w' := by
  have := words_any s w hs
  rw [h] at this
  exact this

theorem slice_of_own {w : World} {B e size n : Nat} {v : Value} {xs : List Value} (h : w.ownsRow B e size v n xs) : ∃ a c, v = .slice a n c := by
  rcases h.2 with ⟨rfl, rfl⟩ | ⟨g, cap, cur, rfl, _⟩
  · exact ⟨none, 0, rfl⟩
  · exact ⟨_, _, rfl⟩

set_option maxHeartbeats 2000000 in
set_option maxRecDepth 100000 in
theorem awake_any (w : World) : Calls Try.prog 9 #[] w fun e w' => e = .returned (.bool true) ∧ Below w.heap.size w w' := by
  have K1 : Hid (Txt.check ⟨#[97, 255]⟩ = (0, 1, 12)) := by unfold Hid; decide
  have K2 : Hid (Txt.words ⟨#[97, 32, 98]⟩ = ([[97], [98]], 0, 0)) := by unfold Hid; decide
  have K3 : Hid (Txt.name ⟨#[110, 111, 100, 101, 45, 49]⟩ = true) := by unfold Hid; decide
  go_enter Try.func9, Try.ntmps9
  go_wp2_with (go_at_call 10; refine (check_at _ _ (by decide) 0 1 12 K1.out).mono ?_)
  rintro e w1 ⟨rfl, b1⟩
  go_wp2_with (go_at_call 14; refine (words_at _ _ (by decide) _ 0 0 K2.out).mono ?_)
  rintro e w2 ⟨v, rfl, hown, b2⟩
  obtain ⟨a, cp, rfl⟩ := slice_of_own hown
  go_wp2_with (go_at_call 12; refine (name_is _ true _ (by decide) K3.out).mono ?_)
  rintro e w3 ⟨rfl, b3⟩
  go_wp2
  go_ret
  exact ⟨rfl, (b1.trans (b2.mono b1.size)).trans (b3.mono (Nat.le_trans b1.size b2.size))⟩

end Go.Proofs.Ytlknklpjlljfjaa
