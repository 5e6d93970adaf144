/-
  The law's step: SetFuse.
-/
import Derived.Test.YtnohidalomjfmaaStf
namespace Go.Proofs.Ytnohidalomjfmaa
open Go.RowKit Go.Maps

set_option maxHeartbeats 2000000 in
set_option maxRecDepth 100000 in
theorem step_fuse {w0 w : World} {pb rb : Nat} {D : DK} {tg rt : Nat → Tg} (h : Hid (Two w0 w pb rb D D tg rt)) (n : Int) (s t : List UInt8) (q : Option Addr) (m c : Nat) (mb : List UInt8) (hn : n < 9223372036854775808) (hm : Hid (mb.length = m)) (hq : Hid (q = none → c = 0)) (hL : Hid (Lies w q mb)) (hmb : m ≤ 140737488355328) :
    Calls Try.prog 13 #[.pointer (some ⟨pb, 0, none⟩), .pointer (some ⟨rb, 0, none⟩), .agg #[.int .i64 7, .int .i64 n, .string ⟨⟨s⟩⟩, .string ⟨⟨t⟩⟩, .slice q m c]] w fun e w' => e = .returned (.bool true) ∧ Both w0 w' pb rb (setF D n) := by
  go_enter Try.func13, Try.ntmps13
  go_wp2_with (at_builtin; refine append_bytes rfl _ _ rfl (w.alloc (.cells #[.int .i64 7, .int .i64 n, .string ⟨⟨s⟩⟩, .string ⟨⟨t⟩⟩, .slice q m c] 32)).heap.size _ [] mb rfl (Own.nil _ _) q c m rfl hm.out hq.out (hL.out.keep ((Below.refl _ w).alloc (Nat.le_refl _) _) (Nat.le_refl _)) ?_ (Nat.le_refl _) ?_)
  · have := hm.out
    simp only [List.length_nil]
    omega
  intro v1 w1 o1 b1
  obtain ⟨q1, cc1, rfl, M1⟩ := mid_of h.out o1 b1
  clear o1 b1
  have HM : Hid (Mid w0 w1 pb rb w.heap.size D D tg rt 7 n s t q m c q1 cc1 mb) := M1
  obtain ⟨x0, x1, x2, x3, x4⟩ := c5 M1.box
  clear M1
  have HH : Hid (HB w0 w1 pb rb D D none []) := ⟨tg, rt, HM.out.two, .inl rfl, .inl rfl⟩
  have H21 : Hid (Calls Try.prog 21 #[.pointer (some ⟨pb, 0, none⟩), .int .i64 n] w1 fun e w' => e = .returned (.tuple #[]) ∧ w'.heap[w.heap.size]? = some (.cells #[.int .i64 7, .int .i64 n, .string ⟨⟨s⟩⟩, .string ⟨⟨t⟩⟩, .slice q m c] 32 (0, 0)) ∧ HB w0 w' pb rb (setF D n) D none []) := by
    refine (setfuse_any n hn HM.out.two.d).mono ?_
    rintro e w' ⟨rfl, d, st⟩
    exact ⟨rfl, (HM.out.left d st).box, tg, rt, HM.out.two.left d st, .inl rfl, .inl rfl⟩
  go_wp2_with (go_at_call 21; refine H21.out.mono ?_)
  rintro e w2 ⟨rfl, bx, h2⟩
  obtain ⟨y0, y1, y2, y3, y4⟩ := c5 bx
  obtain ⟨rv, rz, rc⟩ := h2.rcell
  obtain ⟨m0, m1, m2⟩ := c3 rc
  have rf := fz rc 1
  have H3 : Hid (HB w0 (w2.setCell ⟨rb, 1, none⟩ (.int .i64 (max n (-1)))) pb rb (setF D n) (setF D n) none []) := fu2 h2 n _ hn rfl
  clear h2 rc bx H21 HH HM x0 x1 x2 x3 x4
  go_wp2_with fail
  go_ret
  obtain ⟨tg', rt', h', -, -⟩ := H3.out
  exact ⟨rfl, tg', rt', h'⟩
end Go.Proofs.Ytnohidalomjfmaa
