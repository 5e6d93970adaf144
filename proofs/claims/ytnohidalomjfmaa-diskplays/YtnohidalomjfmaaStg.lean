/-
  The law's step: Read.
-/
import Derived.Test.YtnohidalomjfmaaStf
namespace Go.Proofs.Ytnohidalomjfmaa
open Go.RowKit Go.Maps

set_option maxHeartbeats 2000000 in
set_option maxRecDepth 100000 in
theorem step_read {w0 w : World} {pb rb : Nat} {D : DK} {tg rt : Nat → Tg} (h : Hid (Two w0 w pb rb D D tg rt)) (n : Int) (s t : List UInt8) (q : Option Addr) (m c : Nat) (mb : List UInt8) (hs : Hid (s.length ≤ 281474976710656)) (hm : Hid (mb.length = m)) (hq : Hid (q = none → c = 0)) (hL : Hid (Lies w q mb)) (hmb : m ≤ 140737488355328) :
    Calls Try.prog 13 #[.pointer (some ⟨pb, 0, none⟩), .pointer (some ⟨rb, 0, none⟩), .agg #[.int .i64 6, .int .i64 n, .string ⟨⟨s⟩⟩, .string ⟨⟨t⟩⟩, .slice q m c]] w fun e w' => e = .returned (.bool true) ∧ Both w0 w' pb rb (D) := by
  go_enter Try.func13, Try.ntmps13
  go_wp2_with (at_builtin; refine append_bytes rfl _ _ rfl (w.alloc (.cells #[.int .i64 6, .int .i64 n, .string ⟨⟨s⟩⟩, .string ⟨⟨t⟩⟩, .slice q m c] 32)).heap.size _ [] mb rfl (Own.nil _ _) q c m rfl hm.out hq.out (hL.out.keep ((Below.refl _ w).alloc (Nat.le_refl _) _) (Nat.le_refl _)) ?_ (Nat.le_refl _) ?_)
  · have := hm.out
    simp only [List.length_nil]
    omega
  intro v1 w1 o1 b1
  obtain ⟨q1, cc1, rfl, M1⟩ := mid_of h.out o1 b1
  clear o1 b1
  have HM : Hid (Mid w0 w1 pb rb w.heap.size D D tg rt 6 n s t q m c q1 cc1 mb) := M1
  obtain ⟨x0, x1, x2, x3, x4⟩ := c5 M1.box
  clear M1
  go_wp2_with (go_at_call 19; refine (read_any HM.out.two.d ⟨⟨s⟩⟩ (sz_le hs.out)).mono ?_)
  first | rintro e w2 v2 rfl o2 b2 | rintro e w2 ⟨v2, rfl, o2, b2⟩
  obtain ⟨q2, cc2, rfl, l2, -, -⟩ := o2.shape
  have M2 : Hid (Mid w0 w2 pb rb w.heap.size D D tg rt 6 n s t q m c q1 cc1 mb) := HM.out.keep b2
  have L2 : Hid (Lies w2 q2 (readD D s).2) := l2
  obtain ⟨y0, y1, y2, y3, y4⟩ := c5 M2.out.box
  have H31 : Hid (Calls Try.prog 31 #[.pointer (some ⟨rb, 0, none⟩), .string ⟨⟨s⟩⟩] w2 fun e w' => ∃ a c, e = .returned (.tuple #[.slice a (readD D s).2.length c, .int .i64 (readD D s).1]) ∧ Lies w2 a (readD D s).2 ∧ w' = w2) := rread_any M2.out.two.r s
  have HLN : Hid ((readD D s).2.length ≤ 1048576) := read_len M2.out.two.r s
  clear o2 b2 l2 x0 x1 x2 x3 x4 HM
  generalize (readD D s).2 = R at *
  generalize (readD D s).1 = code at *
  go_wp2_with (go_at_call 31; refine H31.out.mono ?_)
  rintro e w3 ⟨q3, cc3, rfl, l3, rfl⟩
  have H20 : Hid (Calls Try.prog 20 #[.slice q2 R.length cc2, .slice q3 R.length cc3] w3 fun e w' => e = .returned (.bool true) ∧ Below w3.heap.size w3 w') := by
    have := same_any R R q2 q3 cc2 cc3 w3 (by have := HLN.out; omega) L2.out l3
    rw [decide_eq_true rfl] at this
    exact this
  clear l3 H31
  go_wp2_with (go_at_call 20; refine H20.out.mono ?_)
  first | rintro e w4 rfl b4 | rintro e w4 ⟨rfl, b4⟩
  go_wp2_with fail
  go_ret
  exact ⟨rfl, tg, rt, (M2.out.keep b4).two⟩
end Go.Proofs.Ytnohidalomjfmaa
