/-
  mend.
-/
import Derived.Test.YthlbeofonbbbdaaNg
namespace Go.Proofs.Ythlbeofonbbbdaa
open Go.RowKit Go.Maps

def Q0 (p : Nat) : Nat → Prop := fun d => d ≠ p ∧ up d ≠ p
def Q1 : Nat → Prop := fun _ => True
/-- behind mend -/
def Mn (w w' : World) (hb : Nat) (S : HS) : Prop := ∃ l', Mv w w' hb S l' ∧ Vv S.l.length (S.wl l').v
section
variable {w w' wr w1 w2 w0 : World} {hb s p c f : Nat} {S S' S1 S2 : HS} {l l1 l2 : List Nat} {Q : Nat → Prop}
theorem mv_end (h : Mv w wr hb S l) (hs : s ≤ 1) (hp : 2 * p < S.l.length) : Calls Try.prog 60 #[.pointer (some ⟨hb, 0, none⟩), .int .i64 p, .int .i64 s] wr fun e w' => e = .returned (.int .i64 (P S.l.length s p)) ∧ w' = wr := by
  have hl : (S.wl l).l.length = S.l.length := h.len
  have := end_S (p := p) h.m (by rw [hl]; exact hp) hs
  rw [hl] at this
  exact this
theorem phase (hs : s ≤ 1) (h : Sk w0 w hb S s Q p p l) :
    Calls Try.prog 86 #[.pointer (some ⟨hb, 0, none⟩), .int .i64 (P S.l.length s p), .int .i64 s] w fun e w1 => e = .returned (.tuple #[]) ∧ Hid (Calls Try.prog 60 #[.pointer (some ⟨hb, 0, none⟩), .int .i64 p, .int .i64 s] w1 fun e w' => e = .returned (.int .i64 (P S.l.length s p)) ∧ w' = w1) ∧
      Hid (Calls Try.prog 87 #[.pointer (some ⟨hb, 0, none⟩), .int .i64 (P S.l.length s p), .int .i64 s] w1 fun e w' => e = .returned (.tuple #[]) ∧ Hid (∃ l', Mv w0 w' hb S l' ∧ Fin' S.l.length (AA S.l.length s (S.wl l').v) (BB S.l.length s (S.wl l').v) Q p)) := by
  refine (sink_S hs h).mono ?_
  rintro e w1 ⟨rfl, l1, h1⟩
  exact ⟨rfl, mv_end h1.mv hs h1.i.hp, rise_S hs h1⟩
end
def Md (w wr : World) (hb : Nat) (S : HS) (p : Nat) (i : Int) : Prop := (i = 0 ∧ ∃ l', Sk w wr hb S 0 (Q0 p) p p l') ∨ (i = 1 ∧ ∃ l', Sk w wr hb S 1 Q1 p p l') ∨ (i = 2 ∧ Mn w wr hb S)
theorem ix0 (w : World) : (Instr.index 139 (.agg #[.int .i64 0, .int .i64 1]) (.int .i64 0)).run Try.prog w = .ok (.int .i64 0) w := by kernel_rfl
theorem ix1 (w : World) : (Instr.index 139 (.agg #[.int .i64 0, .int .i64 1]) (.int .i64 1)).run Try.prog w = .ok (.int .i64 1) w := by kernel_rfl
set_option maxHeartbeats 1000000 in
theorem mend_raw (w : World) (hb at' p : Nat) (S : HS) (hat : (at' : Int) / 2 = p) (hat0 : (at' : Int) ≤ 1048576) (H37 : Hid (Calls Try.prog 85 #[.pointer (some ⟨hb, 0, none⟩), .int .i64 p] w fun e w' => e = .returned (.tuple #[]) ∧ Hid (Md w w' hb S p 0))) :
    Calls Try.prog 63 #[.pointer (some ⟨hb, 0, none⟩), .int .i64 at'] w fun e w' => e = .returned (.tuple #[]) ∧ Mn w w' hb S := by
  have z0 : 0 ≤ (at' : Int) := by omega
  have i0 := ix0
  have i1 := ix1
  go_enter Try.func63, Try.ntmps63
  go_wp2_with (go_at_call 85; refine H37.out.mono ?_; first | rintro e w1 rfl h1 | rintro e w1 ⟨rfl, h1⟩)
  go_loopw [13] (fun t wr => ∃ i : Int, 0 ≤ i ∧ i ≤ 2 ∧ t = .int .i64 i ∧ Hid (Md w wr hb S p i)) (fun t _ => (2 - intOf t).toNat)
  case atStart => exact ⟨0, by omega, by omega, rfl, h1.out⟩
  case round =>
    obtain ⟨i, hi0, hi2, rfl, HM⟩ := hrel
    rcases HM.out with ⟨rfl, l', h2⟩ | ⟨rfl, l', h2⟩ | ⟨rfl, h2⟩
    · have H39 : Hid (Calls Try.prog 60 #[.pointer (some ⟨hb, 0, none⟩), .int .i64 p, .int .i64 0] wr fun e w' => e = .returned (.int .i64 (P S.l.length 0 p)) ∧ w' = wr) := mv_end h2.mv (by decide) h2.i.hc
      have H38 : Hid (Calls Try.prog 86 #[.pointer (some ⟨hb, 0, none⟩), .int .i64 (P S.l.length 0 p), .int .i64 0] wr fun e w1 => e = .returned (.tuple #[]) ∧ Hid (Calls Try.prog 60 #[.pointer (some ⟨hb, 0, none⟩), .int .i64 p, .int .i64 0] w1 fun e w' => e = .returned (.int .i64 (P S.l.length 0 p)) ∧ w' = w1) ∧
        Hid (Calls Try.prog 87 #[.pointer (some ⟨hb, 0, none⟩), .int .i64 (P S.l.length 0 p), .int .i64 0] w1 fun e w' => e = .returned (.tuple #[]) ∧ Hid (∃ l', Mv w w' hb S l' ∧ Fin' S.l.length (AA S.l.length 0 (S.wl l').v) (BB S.l.length 0 (S.wl l').v) (Q0 p) p))) := phase (by decide) h2
      clear h2 HM
      go_upto_region 6 with (first | (go_at_call 60; refine H39.out.mono ?_; first | rintro e w2 rfl rfl | rintro e w2 ⟨rfl, rfl⟩) | (go_at_call 86; refine H38.out.mono ?_; first | rintro e w2 rfl h39 h40 | rintro e w2 ⟨rfl, h39, h40⟩))
      go_wp2_with (first | (go_at_call 60; refine h39.out.mono ?_; first | rintro e w3 rfl rfl | rintro e w3 ⟨rfl, rfl⟩) | (go_at_call 87; refine h40.out.mono ?_; first | rintro e w3 rfl h5 | rintro e w3 ⟨rfl, h5⟩))
      refine ⟨⟨1, by omega, by omega, rfl, ?_⟩, by simp [intOf]⟩
      obtain ⟨l2, m2, f2⟩ := h5.out
      exact .inr (.inl ⟨rfl, l2, m2, vv_turn f2⟩)
    · have H39 : Hid (Calls Try.prog 60 #[.pointer (some ⟨hb, 0, none⟩), .int .i64 p, .int .i64 1] wr fun e w' => e = .returned (.int .i64 (P S.l.length 1 p)) ∧ w' = wr) := mv_end h2.mv (by decide) h2.i.hc
      have H38 : Hid (Calls Try.prog 86 #[.pointer (some ⟨hb, 0, none⟩), .int .i64 (P S.l.length 1 p), .int .i64 1] wr fun e w1 => e = .returned (.tuple #[]) ∧ Hid (Calls Try.prog 60 #[.pointer (some ⟨hb, 0, none⟩), .int .i64 p, .int .i64 1] w1 fun e w' => e = .returned (.int .i64 (P S.l.length 1 p)) ∧ w' = w1) ∧
        Hid (Calls Try.prog 87 #[.pointer (some ⟨hb, 0, none⟩), .int .i64 (P S.l.length 1 p), .int .i64 1] w1 fun e w' => e = .returned (.tuple #[]) ∧ Hid (∃ l', Mv w w' hb S l' ∧ Fin' S.l.length (AA S.l.length 1 (S.wl l').v) (BB S.l.length 1 (S.wl l').v) Q1 p))) := phase (by decide) h2
      clear h2 HM
      go_upto_region 6 with (first | (go_at_call 60; refine H39.out.mono ?_; first | rintro e w2 rfl rfl | rintro e w2 ⟨rfl, rfl⟩) | (go_at_call 86; refine H38.out.mono ?_; first | rintro e w2 rfl h39 h40 | rintro e w2 ⟨rfl, h39, h40⟩))
      go_wp2_with (first | (go_at_call 60; refine h39.out.mono ?_; first | rintro e w3 rfl rfl | rintro e w3 ⟨rfl, rfl⟩) | (go_at_call 87; refine h40.out.mono ?_; first | rintro e w3 rfl h5 | rintro e w3 ⟨rfl, h5⟩))
      refine ⟨⟨2, by omega, by omega, rfl, ?_⟩, by simp [intOf]⟩
      obtain ⟨l2, m2, f2⟩ := h5.out
      exact .inr (.inr ⟨rfl, l2, m2, vv_end f2⟩)
    · have HR : Hid (Mn w wr hb S) := h2
      clear h2 HM
      go_wp2_with fail
      go_end0
      exact ⟨rfl, HR.out⟩
theorem mend_S {w : World} {hb at' : Nat} {S : HS} (h : Mem w hb S) (hat : at' < S.l.length) (hv : ∃ x, Vv S.l.length (uo S.v at' x)) :
    Calls Try.prog 63 #[.pointer (some ⟨hb, 0, none⟩), .int .i64 at'] w fun e w' => e = .returned (.tuple #[]) ∧ Mn w w' hb S := by
  have hs := h.sm
  obtain ⟨x, hv⟩ := hv
  refine mend_raw w hb at' (at' / 2) S (by omega) (by omega) ?_
  refine (turn_S (p := at' / 2) h (by omega)).mono ?_
  rintro e w1 ⟨rfl, l1, M1, e1⟩
  refine ⟨rfl, .inl ⟨rfl, l1, M1, ?_⟩⟩
  rw [e1]
  exact vv_start hv hat rfl
end Go.Proofs.Ythlbeofonbbbdaa
