/-
  The contracts of Check: the reference's and the program's: both answer what 'Txt.check' says.
-/
import Derived.Test.YtlknklpjlljfjaaWalkA
import Derived.Test.YtlknklpjlljfjaaShelf
import Derived.Lib.OthersKept
namespace Go.Proofs.Ytlknklpjlljfjaa
open Go.RowKit

theorem rune_none (s : ByteArray) (i : Nat) (w : World) (hs : s.size ≤ 9223372036854775000) (hi : i < s.size) (h : Txt.seq (s.data.toList.drop i) = none) :
    Calls Try.prog 20 #[.string s, .int .i64 i] w fun e w' => e = .returned (.tuple #[.int .i64 0, .int .i64 0]) ∧ w' = w := by
  have := rune_any s i w hs hi
  rw [h] at this
  exact this
theorem rune_some (s : ByteArray) (i : Nat) (w : World) (hs : s.size ≤ 9223372036854775000) (hi : i < s.size) (r n : Nat) (h : Txt.seq (s.data.toList.drop i) = some (r, n)) :
    Calls Try.prog 20 #[.string s, .int .i64 i] w fun e w' => e = .returned (.tuple #[.int .i64 r, .int .i64 n]) ∧ w' = w := by
  have := rune_any s i w hs hi
  rw [h] at this
  exact this

def ret3 (x : Nat × Nat × Nat) : Ending := .returned (.tuple #[.int .i64 x.1, .int .i64 x.2.1, .int .i64 x.2.2])

theorem drop_len (s : ByteArray) (pos : Nat) : (s.data.toList.drop pos).length = s.size - pos := by rw [List.length_drop, ← Lib.size_eq]
theorem drop_ne (s : ByteArray) (pos : Nat) (h : pos < s.size) : s.data.toList.drop pos ≠ [] := by
  intro e
  have := drop_len s pos
  rw [e] at this
  simp at this
  omega

set_option maxHeartbeats 1000000 in
set_option maxRecDepth 100000 in
theorem rcheck_any (s : ByteArray) (w : World) (hs : s.size ≤ 9223372036854775000) :
    Calls Try.prog 11 #[.string s] w fun e w' => e = ret3 (Txt.check s) ∧ w' = w := by
  go_enter Try.func11, Try.ntmps11
  go_wp2_with fail
  go_loop [5, 6] (fun c i => ∃ m pos f : Nat, pos ≤ s.size ∧ c = .int .i64 m ∧ i = .int .i64 pos ∧ m ≤ pos ∧ s.size ≤ pos + f ∧ Txt.check s = Txt.chk f (s.data.toList.drop pos) pos m) (fun _ i => s.size - (intOf i).toNat)
  case atStart => exact ⟨0, 0, s.size, by omega, rfl, rfl, by omega, by omega, rfl⟩
  case round =>
    obtain ⟨m, pos, f, hpl, rfl, rfl, hmp, hf, hc⟩ := hrel
    have HC : Hid (Txt.check s = Txt.chk f (s.data.toList.drop pos) pos m) := hc
    clear hc
    by_cases hp : pos < s.size
    · obtain ⟨f, rfl⟩ : ∃ f', f = f' + 1 := ⟨f - 1, by omega⟩
      have hne := drop_ne s pos hp
      have hnl : (s.data.toList.drop pos).length ≠ 0 := by rw [drop_len]; omega
      have HNE : Hid (s.data.toList.drop pos ≠ []) := hne
      have HNL : Hid ((s.data.toList.drop pos).length ≠ 0) := hnl
      clear hne hnl
      cases hq : Txt.seq (s.data.toList.drop pos) with
      | none =>
        have HQ : Hid (Txt.seq (s.data.toList.drop pos) = none) := hq
        clear hq
        go_wp2_with (go_at_call 20; refine (rune_none s pos _ hs hp HQ.out).mono ?_; rintro e w' ⟨rfl, rfl⟩)
        go_ret3
        rw [HC.out, Txt.chk_bad f _ _ _ HNL.out HQ.out]
        exact ⟨rfl, rfl⟩
      | some x =>
        obtain ⟨r, n⟩ := x
        have HQ : Hid (Txt.seq (s.data.toList.drop pos) = some (r, n)) := hq
        clear hq
        have hwd := Txt.seq_width HNE.out HQ.out
        rw [drop_len] at hwd
        have hru := Txt.seq_rune HQ.out
        have hn0 : ((n : Int) == 0) = false := by simp; omega
        by_cases hr : r < 32 ∨ r = 127
        · have HF := Txt.chk_form f _ pos m r n HNL.out HQ.out hr
          have HF' : Hid (Txt.chk (f + 1) (s.data.toList.drop pos) pos m = (0, pos, 4)) := HF
          clear HF
          rcases hr with hr | hr
          · go_wp2_with (go_at_call 20; refine (rune_some s pos _ hs hp r n HQ.out).mono ?_; rintro e w' ⟨rfl, rfl⟩)
            go_ret3
            rw [HC.out, HF'.out]
            exact ⟨rfl, rfl⟩
          · have h127 : ((r : Int) == 127) = true := by simp; omega
            have h32 : ¬ ((r : Int) < 32) := by omega
            clear hr
            go_wp2_with (go_at_call 20; refine (rune_some s pos _ hs hp r n HQ.out).mono ?_; rintro e w' ⟨rfl, rfl⟩)
            go_ret3
            rw [HC.out, HF'.out]
            exact ⟨rfl, rfl⟩
        · have HF := Txt.chk_on f _ pos m r n HNL.out HQ.out hr
          have HF' : Hid (Txt.chk (f + 1) (s.data.toList.drop pos) pos m = Txt.chk f ((s.data.toList.drop pos).drop n) (pos + n) (m + 1)) := HF
          clear HF
          have h127 : ((r : Int) == 127) = false := by simp; omega
          have h32 : ¬ ((r : Int) < 32) := by omega
          clear hr
          go_wp2_with (go_at_call 20; refine (rune_some s pos _ hs hp r n HQ.out).mono ?_; rintro e w' ⟨rfl, rfl⟩)
          refine ⟨?_, ?_⟩
          · refine ⟨m + 1, pos + n, f, by omega, by go_num, by go_num, by omega, by omega, ?_⟩
            rw [HC.out, HF'.out, List.drop_drop]
          · simp [intOf]; omega
    · have HE : Hid (Txt.chk f (s.data.toList.drop pos) pos m = (m, 0, 0)) := Txt.chk_end f _ pos m (by rw [drop_len]; omega)
      go_wp2_with fail
      go_ret3
      rw [HC.out, HE.out]
      exact ⟨rfl, rfl⟩

end Go.Proofs.Ytlknklpjlljfjaa
