/-
  The law's step: Restart.
-/
import Derived.Test.YtnohidalomjfmaaStf
namespace Go.Proofs.Ytnohidalomjfmaa
open Go.RowKit Go.Maps

set_option maxHeartbeats 2000000 in
set_option maxRecDepth 100000 in
theorem step_restart {w0 w : World} {pb rb : Nat} {D : DK} {tg rt : Nat → Tg} (h : Hid (Two w0 w pb rb D D tg rt)) (n : Int) (s t : List UInt8) (q : Option Addr) (m c : Nat) (mb : List UInt8) (hm : Hid (mb.length = m)) (hq : Hid (q = none → c = 0)) (hL : Hid (Lies w q mb)) (hmb : m ≤ 140737488355328) :
    Calls Try.prog 13 #[.pointer (some ⟨pb, 0, none⟩), .pointer (some ⟨rb, 0, none⟩), .agg #[.int .i64 8, .int .i64 n, .string ⟨⟨s⟩⟩, .string ⟨⟨t⟩⟩, .slice q m c]] w fun e w' => e = .returned (.bool true) ∧ Both w0 w' pb rb (restartD D mb) := by
  go_enter Try.func13, Try.ntmps13
  go_wp2_with (at_builtin; refine append_bytes rfl _ _ rfl (w.alloc (.cells #[.int .i64 8, .int .i64 n, .string ⟨⟨s⟩⟩, .string ⟨⟨t⟩⟩, .slice q m c] 32)).heap.size _ [] mb rfl (Own.nil _ _) q c m rfl hm.out hq.out (hL.out.keep ((Below.refl _ w).alloc (Nat.le_refl _) _) (Nat.le_refl _)) ?_ (Nat.le_refl _) ?_)
  · have := hm.out
    simp only [List.length_nil]
    omega
  intro v1 w1 o1 b1
  obtain ⟨q1, cc1, rfl, M1⟩ := mid_of h.out o1 b1
  clear o1 b1
  have HM : Hid (Mid w0 w1 pb rb w.heap.size D D tg rt 8 n s t q m c q1 cc1 mb) := M1
  obtain ⟨x0, x1, x2, x3, x4⟩ := c5 M1.box
  clear M1
  have H18 : Hid (Calls Try.prog 18 #[.pointer (some ⟨pb, 0, none⟩), .slice q1 mb.length cc1] w1 fun e w' => e = .returned (.tuple #[]) ∧ ∃ tg', Mid w0 w' pb rb w.heap.size (restartD D mb) D tg' rt 8 n s t q m c q1 cc1 mb) := by
    refine (restart_any HM.out.two.d mb q1 mb.length cc1 rfl HM.out.cap HM.out.l1).mono ?_
    rintro e w' ⟨rfl, d, st⟩
    exact ⟨rfl, tg, HM.out.left d st⟩
  have H32 : Hid (∀ w2, (∃ tg', Mid w0 w2 pb rb w.heap.size (restartD D mb) D tg' rt 8 n s t q m c q1 cc1 mb) → Calls Try.prog 32 #[.pointer (some ⟨rb, 0, none⟩), .slice q1 mb.length cc1] w2 fun e w' => e = .returned (.tuple #[]) ∧ Both w0 w' pb rb (restartD D mb)) := by
    rintro w2 ⟨tg', M⟩
    refine (rrestart_any M.two.r mb q1 mb.length cc1 rfl (by have := hm.out; omega) M.l2).mono ?_
    rintro e w' ⟨rfl, rt', d, st⟩
    exact ⟨rfl, tg', rt', M.two.right d st⟩
  go_wp2_with (go_at_call 18; refine H18.out.mono ?_)
  rintro e w2 ⟨rfl, h2⟩
  have H2 : Hid (∃ tg', Mid w0 w2 pb rb w.heap.size (restartD D mb) D tg' rt 8 n s t q m c q1 cc1 mb) := h2
  have hbox := Mid.box (Exists.choose_spec h2)
  obtain ⟨y0, y1, y2, y3, y4⟩ := c5 hbox
  clear h2 H18 hbox x0 x1 x2 x3 x4
  go_wp2_with (go_at_call 32; refine (H32.out _ H2.out).mono ?_)
  rintro e w3 ⟨rfl, h3⟩
  go_wp2_with fail
  go_ret
  exact ⟨rfl, h3⟩
end Go.Proofs.Ytnohidalomjfmaa
