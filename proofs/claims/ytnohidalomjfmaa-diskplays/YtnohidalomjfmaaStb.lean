/-
  The law's step: one kind of call.
-/
import Derived.Test.YtnohidalomjfmaaRj
namespace Go.Proofs.Ytnohidalomjfmaa
open Go.RowKit Go.Maps

set_option maxHeartbeats 2000000 in
set_option maxRecDepth 100000 in
theorem step_sync {w0 w : World} {pb rb : Nat} {D : DK} {tg rt : Nat → Tg} (h : Hid (Two w0 w pb rb D D tg rt)) (n : Int) (s t : List UInt8) (q : Option Addr) (m c : Nat) (mb : List UInt8) (hs : Hid (s.length ≤ 281474976710656)) (hm : Hid (mb.length = m)) (hq : Hid (q = none → c = 0)) (hL : Hid (Lies w q mb)) (hmb : m ≤ 140737488355328) :
    Calls Try.prog 13 #[.pointer (some ⟨pb, 0, none⟩), .pointer (some ⟨rb, 0, none⟩), .agg #[.int .i64 2, .int .i64 n, .string ⟨⟨s⟩⟩, .string ⟨⟨t⟩⟩, .slice q m c]] w fun e w' => e = .returned (.bool true) ∧ Both w0 w' pb rb (syncD D s).2 := by
  go_enter Try.func13, Try.ntmps13
  go_wp2_with (at_builtin; refine append_bytes rfl _ _ rfl (w.alloc (.cells #[.int .i64 2, .int .i64 n, .string ⟨⟨s⟩⟩, .string ⟨⟨t⟩⟩, .slice q m c] 32)).heap.size _ [] mb rfl (Own.nil _ _) q c m rfl hm.out hq.out (hL.out.keep ((Below.refl _ w).alloc (Nat.le_refl _) _) (Nat.le_refl _)) ?_ (Nat.le_refl _) ?_)
  · have := hm.out
    simp only [List.length_nil]
    omega
  intro v1 w1 o1 b1
  obtain ⟨q1, cc1, rfl, M1⟩ := mid_of h.out o1 b1
  clear o1 b1
  have HM : Hid (Mid w0 w1 pb rb w.heap.size D D tg rt 2 n s t q m c q1 cc1 mb) := M1
  obtain ⟨x0, x1, x2, x3, x4⟩ := c5 M1.box
  clear M1
  have H1 : Hid (Calls Try.prog 17 #[.pointer (some ⟨pb, 0, none⟩), .string ⟨⟨s⟩⟩] w1.drew fun e w' => e = .returned (.int .i64 (syncD D s).1) ∧ ∃ tg', Mid w0 w' pb rb w.heap.size (syncD D s).2 D tg' rt 2 n s t q m c q1 cc1 mb) := by
    refine (sync_any HM.out.drew.two.d ⟨⟨s⟩⟩ (sz_le hs.out)).mono ?_
    rintro e w' ⟨rfl, d, st⟩
    exact ⟨rfl, tg, HM.out.drew.left d st⟩
  have H2 : Hid (∀ w2, (∃ tg', Mid w0 w2 pb rb w.heap.size (syncD D s).2 D tg' rt 2 n s t q m c q1 cc1 mb) → Calls Try.prog 27 #[.pointer (some ⟨rb, 0, none⟩), .string ⟨⟨s⟩⟩] w2 fun e w' => e = .returned (.int .i64 (syncD D s).1) ∧ Both w0 w' pb rb (syncD D s).2) := by
    rintro w2 ⟨tg', M⟩
    refine (rsync_any M.two.r s).mono ?_
    rintro e w' ⟨rfl, rt', d, st⟩
    exact ⟨rfl, tg', rt', M.two.right d st⟩
  generalize hres : syncD D s = R at *
  have HRES : Hid (syncD D s = R) := hres
  clear hres
  go_wp2_with fail
  go_region_with (first | (go_at_call 17; refine H1.out.mono ?_; rintro e w2 ⟨rfl, hm2⟩; (have hbox := Mid.box (Exists.choose_spec hm2)); obtain ⟨y0, y1, y2, y3, y4⟩ := c5 hbox; clear hbox; have HM2 : Hid (∃ tg', Mid w0 w2 pb rb w.heap.size R.2 D tg' rt 2 n s t q m c q1 cc1 mb) := hm2; clear hm2) | (go_at_call 27; refine (H2.out _ HM2.out).mono ?_; rintro e w3 ⟨rfl, hb⟩; have HB : Hid (Both w0 w3 pb rb R.2) := hb; clear hb))
  all_goals go_wp2_with fail
  all_goals go_ret
  all_goals exact ⟨rfl, by rw [HRES.out]; exact HB.out⟩
end Go.Proofs.Ytnohidalomjfmaa
