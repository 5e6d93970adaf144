/-
  The contract of runes.Name.
-/
import Derived.Test.YtnkkiepoljbhlaaBase
import Derived.Test.YtnkkiepoljbhlaaNames
import Derived.WalkKit
import Derived.WalkSpells
import Derived.Laws.RangeAny
namespace Go.Proofs.Ytnkkiepoljbhlaa
open Go.RowKit

theorem drop_len (s : ByteArray) (pos : Nat) : (s.data.toList.drop pos).length = s.size - pos := by rw [List.length_drop, ← Lib.size_eq]
theorem drop_ne (s : ByteArray) (pos : Nat) (h : pos < s.size) : s.data.toList.drop pos ≠ [] := by
  intro e
  have := drop_len s pos
  rw [e] at this
  simp at this
  omega

theorem iter_below (w : World) (s : ByteArray) (pos : Nat) : Below w.heap.size w (w.iter s pos) :=
  (Below.refl _ w).alloc (Nat.le_refl _) _



set_option maxHeartbeats 1000000 in
set_option maxRecDepth 100000 in
theorem in_any (r : Nat) (w : World) (hr : r ≤ 1114111) :
    Calls Try.prog 66 #[.int .i32 r] w fun e w' => e = .returned (.bool (Txt.inN r)) ∧ w' = w := by
  have hr0 : 0 ≤ (r : Int) := by omega
  by_cases h1 : 97 ≤ r ∧ r ≤ 122
  · have e1 : 97 ≤ (r : Int) := by omega
    have e2 : (r : Int) ≤ 122 := by omega
    have H : Hid (Txt.inN r = true) := by unfold Hid Txt.inN; simp; omega
    clear h1
    go_enter Try.func66, Try.ntmps66
    go_wp2
    go_ret
    exact ⟨ret_b H.out.symm, rfl⟩
  by_cases h2 : 48 ≤ r ∧ r ≤ 57
  · have e1 : ¬ 97 ≤ (r : Int) := by omega
    have e2 : 48 ≤ (r : Int) := by omega
    have e3 : (r : Int) ≤ 57 := by omega
    have H : Hid (Txt.inN r = true) := by unfold Hid Txt.inN; simp; omega
    clear h1 h2
    go_enter Try.func66, Try.ntmps66
    go_wp2
    go_ret
    exact ⟨ret_b H.out.symm, rfl⟩
  by_cases h3 : ((r : Int) == 45) = true
  · have H : Hid (Txt.inN r = true) := by unfold Hid Txt.inN; simp at h3 ⊢; omega
    have e1 : ¬ 97 ≤ (r : Int) := by simp at h3; omega
    have e2 : ¬ 48 ≤ (r : Int) := by simp at h3; omega
    clear h1 h2
    go_enter Try.func66, Try.ntmps66
    go_wp2
    go_ret
    exact ⟨ret_b H.out.symm, rfl⟩
  rw [Bool.not_eq_true] at h3
  have H3 : Hid (¬ r = 45) := by unfold Hid; simp at h3; omega
  by_cases h4 : ((r : Int) == 95) = true
  · have H : Hid (Txt.inN r = true) := by unfold Hid Txt.inN; simp at h4 ⊢; omega
    have e1 : ¬ 97 ≤ (r : Int) := by simp at h4; omega
    have e2 : 48 ≤ (r : Int) := by simp at h4; omega
    have e3 : ¬ (r : Int) ≤ 57 := by simp at h4; omega
    clear h1 h2
    go_enter Try.func66, Try.ntmps66
    go_wp2
    go_ret
    exact ⟨ret_b H.out.symm, rfl⟩
  rw [Bool.not_eq_true] at h4
  have H4 : Hid (¬ r = 95) := by unfold Hid; simp at h4; omega
  have HI : Hid (Txt.inN r = (decide (945 ≤ (r : Int)) && decide ((r : Int) ≤ 969))) := by
    unfold Hid Txt.inN
    have a3 := H3.out
    have a4 := H4.out
    rw [← Bool.decide_and, decide_eq_decide]
    omega
  have A1 : Hid (¬ (97 ≤ r ∧ r ≤ 122)) := h1
  have A2 : Hid (¬ (48 ≤ r ∧ r ≤ 57)) := h2
  clear h1 h2
  rcases (by have := A1.out; have := A2.out; omega : r < 48 ∨ (57 < r ∧ r < 97) ∨ (122 < r ∧ r < 945) ∨ (945 ≤ r ∧ r ≤ 969) ∨ 969 < r) with g | g | g | g | g
  · have e1 : ¬ 97 ≤ (r : Int) := by omega
    have e2 : ¬ 48 ≤ (r : Int) := by omega
    have e3 : ¬ 945 ≤ (r : Int) := by omega
    have H : Hid (Txt.inN r = false) := by unfold Hid; rw [HI.out]; simp; omega
    clear g
    go_enter Try.func66, Try.ntmps66
    go_wp2
    go_ret
    exact ⟨ret_b H.out.symm, rfl⟩
  · have e1 : ¬ 97 ≤ (r : Int) := by omega
    have e2 : 48 ≤ (r : Int) := by omega
    have e4 : ¬ (r : Int) ≤ 57 := by omega
    have e3 : ¬ 945 ≤ (r : Int) := by omega
    have H : Hid (Txt.inN r = false) := by unfold Hid; rw [HI.out]; simp; omega
    clear g
    go_enter Try.func66, Try.ntmps66
    go_wp2
    go_ret
    exact ⟨ret_b H.out.symm, rfl⟩
  · have e1 : 97 ≤ (r : Int) := by omega
    have e5 : ¬ (r : Int) ≤ 122 := by omega
    have e2 : 48 ≤ (r : Int) := by omega
    have e4 : ¬ (r : Int) ≤ 57 := by omega
    have e3 : ¬ 945 ≤ (r : Int) := by omega
    have H : Hid (Txt.inN r = false) := by unfold Hid; rw [HI.out]; simp; omega
    clear g
    go_enter Try.func66, Try.ntmps66
    go_wp2
    go_ret
    exact ⟨ret_b H.out.symm, rfl⟩
  · have e1 : 97 ≤ (r : Int) := by omega
    have e5 : ¬ (r : Int) ≤ 122 := by omega
    have e2 : 48 ≤ (r : Int) := by omega
    have e4 : ¬ (r : Int) ≤ 57 := by omega
    have e3 : 945 ≤ (r : Int) := by omega
    have e6 : (r : Int) ≤ 969 := by omega
    have H : Hid (Txt.inN r = true) := by unfold Hid; rw [HI.out]; simp; omega
    clear g
    go_enter Try.func66, Try.ntmps66
    go_wp2
    go_ret
    exact ⟨ret_b H.out.symm, rfl⟩
  · have e1 : 97 ≤ (r : Int) := by omega
    have e5 : ¬ (r : Int) ≤ 122 := by omega
    have e2 : 48 ≤ (r : Int) := by omega
    have e4 : ¬ (r : Int) ≤ 57 := by omega
    have e3 : 945 ≤ (r : Int) := by omega
    have e6 : ¬ (r : Int) ≤ 969 := by omega
    have H : Hid (Txt.inN r = false) := by unfold Hid; rw [HI.out]; simp; omega
    clear g
    go_enter Try.func66, Try.ntmps66
    go_wp2
    go_ret
    exact ⟨ret_b H.out.symm, rfl⟩

theorem in_is (r : Nat) (b : Bool) (w : World) (hr : r ≤ 1114111) (h : Txt.inN r = b) :
    Calls Try.prog 66 #[.int .i32 r] w fun e w' => e = .returned (.bool b) ∧ w' = w := by
  have := in_any r w hr
  rw [h] at this
  exact this

set_option maxHeartbeats 1000000 in
set_option maxRecDepth 100000 in
theorem name_any (s : ByteArray) (w : World) (hs : s.size ≤ 9223372036854775000) :
    Calls Try.prog 40 #[.string s] w fun e w' => e = .returned (.bool (Txt.name s)) ∧ ∃ pos, w' = w.iter s pos := by
  go_enter Try.func40, Try.ntmps40
  go_wp2_with fail
  go_loopw [3] (fun c wr => ∃ m pos f : Nat, wr = w.iter s pos ∧ pos ≤ s.size ∧ c = .int .i64 m ∧ m ≤ 16 ∧ s.size ≤ pos + f ∧ Txt.name s = Txt.nm f (s.data.toList.drop pos) m) (fun _ wr => s.size - wr.iterPos w.heap.size)
  case atStart => exact ⟨0, 0, s.size, rfl, by omega, rfl, by omega, by omega, rfl⟩
  case round =>
    obtain ⟨m, pos, f, rfl, hpl, rfl, hmp, hf, hc⟩ := hrel
    have HC : Hid (Txt.name s = Txt.nm f (s.data.toList.drop pos) m) := hc
    clear hc
    by_cases hp : pos < s.size
    · obtain ⟨f, rfl⟩ : ∃ f', f = f' + 1 := ⟨f - 1, by omega⟩
      have HNE : Hid (s.data.toList.drop pos ≠ []) := drop_ne s pos hp
      have HNL : Hid ((s.data.toList.drop pos).length ≠ 0) := by unfold Hid; rw [drop_len]; omega
      have hdec := Txt.decode_seq s pos
      cases hq : Txt.seq (s.data.toList.drop pos) with
      | none =>
        rw [hq] at hdec
        have hnx : ∀ ty, (Instr.next (.pointer (some ⟨w.heap.size, 0, none⟩)) true ty).run Try.prog (w.iter s pos) = .ok (.tuple #[.bool true, .int .i64 pos, .int .i32 (65533 : Nat)]) (w.iter s (pos + 1)) := fun ty => by
          rw [run_next_any w s pos ty hp, hdec]; rfl
        have HF : Hid (Txt.name s = false) := by unfold Hid; rw [HC.out]; exact Txt.nm_none f _ _ HNL.out hq
        clear hq hdec
        by_cases h16 : (16 : Int) < (m : Int) + 1
        · go_wp2_with fail
          go_ret
          exact ⟨ret_b HF.out.symm, _, rfl⟩
        · go_wp2_with (go_at_call 66; refine (in_is 65533 false _ (by omega) (by decide)).mono ?_; rintro e w' ⟨rfl, rfl⟩)
          go_ret
          exact ⟨ret_b HF.out.symm, _, rfl⟩
      | some x =>
        obtain ⟨r, n⟩ := x
        rw [hq] at hdec
        have hnx : ∀ ty, (Instr.next (.pointer (some ⟨w.heap.size, 0, none⟩)) true ty).run Try.prog (w.iter s pos) = .ok (.tuple #[.bool true, .int .i64 pos, .int .i32 r]) (w.iter s (pos + n)) := fun ty => by
          rw [run_next_any w s pos ty hp, hdec]; rfl
        have HQ : Hid (Txt.seq (s.data.toList.drop pos) = some (r, n)) := hq
        clear hq hdec
        have hwd := Txt.seq_width HNE.out HQ.out
        rw [drop_len] at hwd
        have hru := Txt.seq_rune HQ.out
        have hns := Txt.nm_some f _ m r n HNL.out HQ.out
        by_cases h16 : (16 : Int) < (m : Int) + 1
        · have HF : Hid (Txt.name s = false) := by unfold Hid; rw [HC.out, hns, if_pos (.inl (by omega))]
          clear hns
          go_wp2_with fail
          go_ret
          exact ⟨ret_b HF.out.symm, _, rfl⟩
        · by_cases hin : Txt.inN r = true
          · have HF : Hid (Txt.name s = Txt.nm f (s.data.toList.drop (pos + n)) (m + 1)) := by unfold Hid; rw [HC.out, hns, if_neg (by simp [hin]; omega), List.drop_drop]
            have HIN : Hid (Txt.inN r = true) := hin
            clear hns hin
            go_wp2_with (go_at_call 66; refine (in_is r true _ hru HIN.out).mono ?_; rintro e w' ⟨rfl, rfl⟩)
            go_roundw
            case rel => exact ⟨m + 1, pos + n, f, rfl, by omega, by go_num, by omega, by omega, HF.out⟩
            case measure => simp; omega
          · rw [Bool.not_eq_true] at hin
            have HF : Hid (Txt.name s = false) := by unfold Hid; rw [HC.out, hns, if_pos (.inr hin)]
            have HIN : Hid (Txt.inN r = false) := hin
            clear hns hin
            go_wp2_with (go_at_call 66; refine (in_is r false _ hru HIN.out).mono ?_; rintro e w' ⟨rfl, rfl⟩)
            go_ret
            exact ⟨ret_b HF.out.symm, _, rfl⟩
    · have HE : Hid (Txt.name s = decide (0 < m)) := by unfold Hid; rw [HC.out]; exact Txt.nm_end f _ m (by rw [drop_len]; omega)
      have hnx : ∀ ty, (Instr.next (.pointer (some ⟨w.heap.size, 0, none⟩)) true ty).run Try.prog (w.iter s pos) = _ := fun ty => run_next_end w s pos ty hp
      go_wp2_with fail
      go_ret
      refine ⟨ret_b ?_, _, rfl⟩
      rw [HE.out, decide_eq_decide]

theorem name_is (s : ByteArray) (b : Bool) (w : World) (hs : s.size ≤ 9223372036854775000) (h : Txt.name s = b) :
    Calls Try.prog 40 #[.string s] w fun e w' => e = .returned (.bool b) ∧ Below w.heap.size w w' := by
  refine (name_any s w hs).mono ?_
  rintro e w' ⟨rfl, pos, rfl⟩
  exact ⟨ret_b h, iter_below w s pos⟩

end Go.Proofs.Ytnkkiepoljbhlaa
