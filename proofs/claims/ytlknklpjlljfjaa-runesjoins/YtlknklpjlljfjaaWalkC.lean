/-
  The contract of the program's Check: it answers what 'Txt.check' says; its iterator is the one block that it makes.
-/
import Derived.Test.YtlknklpjlljfjaaWalkB
namespace Go.Proofs.Ytlknklpjlljfjaa
open Go.RowKit

theorem hasMark (s : ByteArray) (pos : Nat) (b : Bool) (w : World) (h : Txt.mark.isPrefixOf (s.data.toList.drop pos) = b) :
    Calls Try.prog 19 #[.string (s.extract pos s.size), .string ⟨#[239, 191, 189]⟩] w fun e w' => e = .returned (.bool b) ∧ w' = w := by
  have e1 : (s.extract pos s.size).data.toList = s.data.toList.drop pos := by
    rw [Lib.extract_data]
    exact List.take_of_length_le (by rw [drop_len]; omega)
  have := Try.strings_HasPrefix (s.extract pos s.size) ⟨#[239, 191, 189]⟩ w
  rw [e1] at this
  rw [← h]
  exact this

theorem iter_below (w : World) (s : ByteArray) (pos : Nat) : Below w.heap.size w (w.iter s pos) :=
  (Below.refl _ w).alloc (Nat.le_refl _) _

set_option maxHeartbeats 1000000 in
set_option maxRecDepth 100000 in
theorem check_any (s : ByteArray) (w : World) (hs : s.size ≤ 9223372036854775000) :
    Calls Try.prog 10 #[.string s] w fun e w' => e = ret3 (Txt.check s) ∧ ∃ pos, w' = w.iter s pos := by
  go_enter Try.func10, Try.ntmps10
  go_wp2_with fail
  go_loopw [5] (fun c wr => ∃ m pos f : Nat, wr = w.iter s pos ∧ pos ≤ s.size ∧ c = .int .i64 m ∧ m ≤ pos ∧ s.size ≤ pos + f ∧ Txt.check s = Txt.chk f (s.data.toList.drop pos) pos m) (fun _ wr => s.size - wr.iterPos w.heap.size)
  case atStart => exact ⟨0, 0, s.size, rfl, by omega, rfl, by omega, by omega, rfl⟩
  case round =>
    obtain ⟨m, pos, f, rfl, hpl, rfl, hmp, hf, hc⟩ := hrel
    have HC : Hid (Txt.check s = Txt.chk f (s.data.toList.drop pos) pos m) := hc
    clear hc
    by_cases hp : pos < s.size
    · obtain ⟨f, rfl⟩ : ∃ f', f = f' + 1 := ⟨f - 1, by omega⟩
      have HNE : Hid (s.data.toList.drop pos ≠ []) := drop_ne s pos hp
      have HNL : Hid ((s.data.toList.drop pos).length ≠ 0) := by unfold Hid; rw [drop_len]; omega
      have hdec := Txt.decode_seq s pos
      cases hq : Txt.seq (s.data.toList.drop pos) with
      | none =>
        rw [hq] at hdec
        have hnx : ∀ ty, (Instr.next (.pointer (some ⟨w.heap.size, 0, none⟩)) true ty).run Try.prog (w.iter s pos) = .ok (.tuple #[.bool true, .int .i64 pos, .int .i32 65533]) (w.iter s (pos + 1)) := fun ty => by
          rw [run_next_any w s pos ty hp, hdec]; rfl
        have HQ : Hid (Txt.seq (s.data.toList.drop pos) = none) := hq
        have HM : Hid (Txt.mark.isPrefixOf (s.data.toList.drop pos) = false) := Txt.not_mark hq
        clear hq hdec
        go_wp2_with (go_at_call 19; refine (hasMark s pos false _ HM.out).mono ?_; rintro e w' ⟨rfl, rfl⟩)
        go_ret3
        rw [HC.out, Txt.chk_bad f _ _ _ HNL.out HQ.out]
        exact ⟨rfl, _, rfl⟩
      | some x =>
        obtain ⟨r, n⟩ := x
        rw [hq] at hdec
        have hnx : ∀ ty, (Instr.next (.pointer (some ⟨w.heap.size, 0, none⟩)) true ty).run Try.prog (w.iter s pos) = .ok (.tuple #[.bool true, .int .i64 pos, .int .i32 r]) (w.iter s (pos + n)) := fun ty => by
          rw [run_next_any w s pos ty hp, hdec]; rfl
        have HQ : Hid (Txt.seq (s.data.toList.drop pos) = some (r, n)) := hq
        clear hq hdec
        have hwd := Txt.seq_width HNE.out HQ.out
        rw [drop_len] at hwd
        have hru := Txt.seq_rune HQ.out
        by_cases hr : r < 32 ∨ r = 127
        · have HF : Hid (Txt.chk (f + 1) (s.data.toList.drop pos) pos m = (0, pos, 4)) := Txt.chk_form f _ pos m r n HNL.out HQ.out hr
          have hnm : ((r : Int) == 65533) = false := by simp; omega
          rcases hr with hr | hr
          · go_wp2_with fail
            go_ret3
            rw [HC.out, HF.out]
            exact ⟨rfl, _, rfl⟩
          · have h127 : ((r : Int) == 127) = true := by simp; omega
            have h32 : ¬ ((r : Int) < 32) := by omega
            clear hr
            go_wp2_with fail
            go_ret3
            rw [HC.out, HF.out]
            exact ⟨rfl, _, rfl⟩
        · have HF : Hid (Txt.chk (f + 1) (s.data.toList.drop pos) pos m = Txt.chk f ((s.data.toList.drop pos).drop n) (pos + n) (m + 1)) := Txt.chk_on f _ pos m r n HNL.out HQ.out hr
          have h127 : ((r : Int) == 127) = false := by simp; omega
          have h32 : ¬ ((r : Int) < 32) := by omega
          clear hr
          by_cases hnm : ((r : Int) == 65533) = true
          · have HM : Hid (Txt.mark.isPrefixOf (s.data.toList.drop pos) = true) := by
              have e : r = 65533 := by simp at hnm; omega
              subst e
              exact (Txt.mark_of_seq HNE.out HQ.out).1
            go_wp2_with (go_at_call 19; refine (hasMark s pos true _ HM.out).mono ?_; rintro e w' ⟨rfl, rfl⟩)
            go_roundw
            case rel =>
              refine ⟨m + 1, pos + n, f, rfl, by omega, by go_num, by omega, by omega, ?_⟩
              rw [HC.out, HF.out, List.drop_drop]
            case measure => simp; omega
          · rw [Bool.not_eq_true] at hnm
            go_wp2_with fail
            go_roundw
            case rel =>
              refine ⟨m + 1, pos + n, f, rfl, by omega, by go_num, by omega, by omega, ?_⟩
              rw [HC.out, HF.out, List.drop_drop]
            case measure => simp; omega
    · have HE : Hid (Txt.chk f (s.data.toList.drop pos) pos m = (m, 0, 0)) := Txt.chk_end f _ pos m (by rw [drop_len]; omega)
      have hnx : ∀ ty, (Instr.next (.pointer (some ⟨w.heap.size, 0, none⟩)) true ty).run Try.prog (w.iter s pos) = _ := fun ty => run_next_end w s pos ty hp
      go_wp2_with fail
      go_ret3
      rw [HC.out, HE.out]
      exact ⟨rfl, _, rfl⟩

end Go.Proofs.Ytlknklpjlljfjaa
