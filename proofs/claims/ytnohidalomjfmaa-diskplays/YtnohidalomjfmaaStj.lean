/-
  The law's step: List.
-/
import Derived.Test.YtnohidalomjfmaaStf
namespace Go.Proofs.Ytnohidalomjfmaa
open Go.RowKit Go.Maps

set_option maxHeartbeats 2000000 in
set_option maxRecDepth 100000 in
theorem step_list {w0 w : World} {pb rb : Nat} {D : DK} {tg rt : Nat → Tg} (h : Hid (Two w0 w pb rb D D tg rt)) (n : Int) (s t : List UInt8) (q : Option Addr) (m c : Nat) (mb : List UInt8) (hm : Hid (mb.length = m)) (hq : Hid (q = none → c = 0)) (hL : Hid (Lies w q mb)) (hmb : m ≤ 140737488355328) :
    Calls Try.prog 13 #[.pointer (some ⟨pb, 0, none⟩), .pointer (some ⟨rb, 0, none⟩), .agg #[.int .i64 9, .int .i64 n, .string ⟨⟨s⟩⟩, .string ⟨⟨t⟩⟩, .slice q m c]] w fun e w' => e = .returned (.bool true) ∧ Both w0 w' pb rb (D) := by
  go_enter Try.func13, Try.ntmps13
  go_wp2_with (at_builtin; refine append_bytes rfl _ _ rfl (w.alloc (.cells #[.int .i64 9, .int .i64 n, .string ⟨⟨s⟩⟩, .string ⟨⟨t⟩⟩, .slice q m c] 32)).heap.size _ [] mb rfl (Own.nil _ _) q c m rfl hm.out hq.out (hL.out.keep ((Below.refl _ w).alloc (Nat.le_refl _) _) (Nat.le_refl _)) ?_ (Nat.le_refl _) ?_)
  · have := hm.out
    simp only [List.length_nil]
    omega
  intro v1 w1 o1 b1
  obtain ⟨q1, cc1, rfl, M1⟩ := mid_of h.out o1 b1
  clear o1 b1
  have HM : Hid (Mid w0 w1 pb rb w.heap.size D D tg rt 9 n s t q m c q1 cc1 mb) := M1
  obtain ⟨x0, x1, x2, x3, x4⟩ := c5 M1.box
  clear M1
  go_wp2_with (go_at_call 22; refine (list_any HM.out.two.d).mono ?_)
  rintro e w2 ⟨v2, rfl, o2, b2⟩
  have M2 : Hid (Mid w0 w2 pb rb w.heap.size D D tg rt 9 n s t q m c q1 cc1 mb) := HM.out.keep b2
  have O2 : Hid (OwnS w2 w1.heap.size v2 (listD D)) := o2
  have H34 : Hid (Calls Try.prog 34 #[.pointer (some ⟨rb, 0, none⟩)] w2 fun e w' => ∃ v, e = .returned v ∧ OwnS w' w2.heap.size v (listD D) ∧ Below w2.heap.size w2 w') := rlist_any M2.out.two.r
  have HLN : Hid ((listD D).length ≤ 64) := list_len M2.out.two.r
  obtain ⟨z1, z2, z3, rfl⟩ := sl_own o2
  clear o2 b2 x0 x1 x2 x3 x4 HM
  go_wp2_with (go_at_call 34; refine H34.out.mono ?_)
  rintro e w3 ⟨v3, rfl, o3, b3⟩
  have M3 : Hid (Mid w0 w3 pb rb w.heap.size D D tg rt 9 n s t q m c q1 cc1 mb) := M2.out.keep b3
  have H33 : Hid (Calls Try.prog 33 #[.slice z1 z2 z3, v3] w3 fun e w' => e = .returned (.bool true) ∧ Below w3.heap.size w3 w') := sameT (O2.out.keep b3) o3 (by have := HLN.out; omega)
  clear o3 b3 H34
  go_wp2_with (go_at_call 33; refine H33.out.mono ?_)
  rintro e w4 ⟨rfl, b4⟩
  go_wp2_with fail
  go_ret
  exact ⟨rfl, tg, rt, (M3.out.keep b4).two⟩
end Go.Proofs.Ytnohidalomjfmaa
