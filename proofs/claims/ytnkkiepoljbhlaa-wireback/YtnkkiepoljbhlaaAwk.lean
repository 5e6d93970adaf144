/-
  The contract of awake.
-/
import Derived.Test.YtnkkiepoljbhlaaPn
import Derived.Test.YtnkkiepoljbhlaaNameW
import Derived.Test.YtnkkiepoljbhlaaNum
namespace Go.Proofs.Ytnkkiepoljbhlaa
open Go.RowKit

set_option maxHeartbeats 400000 in
theorem remade_at (v u r : Value) (w : World)
    (H1 : Hid (∀ w, Calls Try.prog 9 #[v] w fun e w' => e = .returned u ∧ Below w.heap.size w w'))
    (H2 : Hid (∀ w, Calls Try.prog 8 #[u] w fun e w' => e = .returned r ∧ Below w.heap.size w w')) :
    Calls Try.prog 20 #[v] w fun e w' => e = .returned r ∧ Below w.heap.size w w' := by
  go_enter Try.func20, Try.ntmps20
  go_wp2_with (first | (go_at_call 9; refine (H1.out _).mono ?_; rintro e w1 ⟨rfl, b1⟩) | (go_at_call 8; refine (H2.out _).mono ?_; rintro e w2 ⟨rfl, b2⟩))
  go_ret
  exact ⟨rfl, below_from b1 b2 b1.size⟩

set_option maxHeartbeats 1000000 in
set_option maxRecDepth 100000 in
theorem formed_beat (s : ByteArray) (w : World) (hs : s.size ≤ 9223372036854775000) (h : Hid (Txt.name s = true)) :
    Calls Try.prog 21 #[.iface 57 (.agg #[.string s])] w fun e w' => e = .returned (.bool true) ∧ Below w.heap.size w w' := by
  have a1 := assert_no (t := 57) (x := 35) (v := .agg #[.string s]) (by simp) Try.underlying61 Try.zeroValue61
  have a2 := assert_no (t := 57) (x := 35) (v := .agg #[.string s]) (by simp) Try.underlying63 Try.zeroValue63
  have a3 := assert_yes (x := 35) (v := .agg #[.string s]) Try.underlying57
  go_enter Try.func21, Try.ntmps21
  go_wp2_with (go_at_call 40; refine (name_is s true _ hs h.out).mono ?_; rintro e w1 ⟨rfl, b1⟩)
  go_ret
  refine ⟨rfl, below_from ?_ b1 (by simp)⟩
  go_grown
set_option maxHeartbeats 1000000 in
set_option maxRecDepth 100000 in
theorem formed_ticked (w : World) :
    Calls Try.prog 21 #[.iface 59 (.agg #[])] w fun e w' => e = .returned (.bool true) ∧ Below w.heap.size w w' := by
  have a1 := assert_no (t := 59) (x := 35) (v := .agg #[]) (by simp) Try.underlying61 Try.zeroValue61
  have a2 := assert_no (t := 59) (x := 35) (v := .agg #[]) (by simp) Try.underlying63 Try.zeroValue63
  have a3 := assert_no (t := 59) (x := 35) (v := .agg #[]) (by simp) Try.underlying57 Try.zeroValue57
  have a4 := assert_no (t := 59) (x := 35) (v := .agg #[]) (by simp) Try.underlying64 Try.zeroValue64
  have a5 := assert_no (t := 59) (x := 35) (v := .agg #[]) (by simp) Try.underlying66 Try.zeroValue66
  have a6 := assert_no (t := 59) (x := 35) (v := .agg #[]) (by simp) Try.underlying68 Try.zeroValue68
  have a7 := assert_no (t := 59) (x := 35) (v := .agg #[]) (by simp) Try.underlying70 Try.zeroValue70
  have a8 := assert_no (t := 59) (x := 35) (v := .agg #[]) (by simp) Try.underlying71 Try.zeroValue71
  have a9 := assert_no (t := 59) (x := 35) (v := .agg #[]) (by simp) Try.underlying73 Try.zeroValue73
  have a10 := assert_no (t := 59) (x := 35) (v := .agg #[]) (by simp) Try.underlying75 Try.zeroValue75
  have a11 := assert_yes (x := 35) (v := .agg #[]) Try.underlying59
  go_enter Try.func21, Try.ntmps21
  go_wp2_with fail
  go_ret
  exact ⟨rfl, by go_grown⟩

set_option maxHeartbeats 400000 in
theorem kind_beat (s : ByteArray) (w : World) :
    Calls Try.prog 96 #[.agg #[.string s]] w fun e w' => e = .returned (.int .i64 3) ∧ Below w.heap.size w w' := by
  go_enter Try.func96, Try.ntmps96
  go_wp2_with fail
  go_ret
  exact ⟨rfl, by go_grown⟩

set_option maxHeartbeats 1000000 in
set_option maxRecDepth 100000 in
theorem bytes_beat (w : World) :
    Calls Try.prog 22 #[.iface 57 (.agg #[.string ⟨#[97]⟩])] w fun e w' => ∃ q c, e = .returned (.slice q 3 c) ∧ Own w' w.heap.size (.slice q 3 c) [3, 1, 97] ∧ Below w.heap.size w w' := by
  have HT : Hid (∀ (q : Option Addr) (c : Nat) (W : World), Own W w.heap.size (.slice q 1 c) [3] → w.heap.size ≤ W.heap.size → Calls Try.prog 47 #[.slice q 1 c, .string ⟨#[97]⟩] W fun e w' => ∃ q' c', e = .returned (.slice q' 3 c') ∧ Own w' w.heap.size (.slice q' 3 c') [3, 1, 97] ∧ Below w.heap.size W w') := fun q c W h hB => by
    refine (addText_any w.heap.size 1 q c [3] ⟨#[97]⟩ W h hB (by decide) (by decide)).mono ?_
    rintro e w' ⟨q', k', c', rfl, h1, h2⟩
    obtain rfl := (own_parts h1).2.2
    exact ⟨q', c', rfl, h1, h2⟩
  generalize hS : (⟨#[97]⟩ : ByteArray) = S at *
  have a1 := assert_no (t := 57) (x := 35) (v := .agg #[.string S]) (by simp) Try.underlying61 Try.zeroValue61
  have a2 := assert_no (t := 57) (x := 35) (v := .agg #[.string S]) (by simp) Try.underlying63 Try.zeroValue63
  have a3 := assert_yes (x := 35) (v := .agg #[.string S]) Try.underlying57
  clear hS
  go_enter Try.func22, Try.ntmps22
  go_wp2_with (go_at_call 96; refine (kind_beat S _).mono ?_; rintro e w1 ⟨rfl, b1⟩)
  have B1 : Hid (Below w.heap.size w w1) := b1
  clear b1
  have O1 : Hid (Own ((w1.alloc (.cells #[.int .u8 3] 5)).alloc (.cells #[.string S] 57)) w.heap.size (.slice (some ⟨w1.heap.size, 0, none⟩) 1 1) [3]) := (own_one (x := 3) B1.out.size).keep ((Below.refl _ _).alloc (Nat.le_refl _) _)
  go_wp2_with (go_at_call 47; refine (HT.out _ _ _ O1.out (by have := B1.out.size; simp; omega)).mono ?_; rintro e w2 ⟨q2, c2, rfl, o2, b2⟩)
  go_ret
  refine ⟨q2, c2, rfl, o2, B1.out.trans (Below.trans ?_ b2)⟩
  exact ((Below.refl _ w1).alloc B1.out.size _).alloc (by have := B1.out.size; simp; omega) _

set_option maxHeartbeats 400000 in
theorem encode_beat (w : World) :
    Calls Try.prog 10 #[.iface 57 (.agg #[.string ⟨#[97]⟩])] w fun e w' => ∃ q c, e = .returned (.tuple #[.slice q 3 c, .int .i64 0]) ∧ Own w' w.heap.size (.slice q 3 c) [3, 1, 97] ∧ Below w.heap.size w w' := by
  have H20 : Hid (∀ w, Calls Try.prog 20 #[.iface 57 (.agg #[.string ⟨#[97]⟩])] w fun e w' => e = .returned (.iface 57 (.agg #[.string ⟨#[97]⟩])) ∧ Below w.heap.size w w') := fun w => remade_at _ _ _ w (fun w => plainly3 { PL.zero with nd := ⟨#[97]⟩ } w) (fun w => make3 _ rfl w)
  have H21 : Hid (∀ w, Calls Try.prog 21 #[.iface 57 (.agg #[.string ⟨#[97]⟩])] w fun e w' => e = .returned (.bool true) ∧ Below w.heap.size w w') := fun w => formed_beat _ w (by decide) (by unfold Hid; decide)
  have H22 : Hid (∀ w, Calls Try.prog 22 #[.iface 57 (.agg #[.string ⟨#[97]⟩])] w fun e w' => ∃ q c, e = .returned (.slice q 3 c) ∧ Own w' w.heap.size (.slice q 3 c) [3, 1, 97] ∧ Below w.heap.size w w') := fun w => bytes_beat w
  generalize hS : (⟨#[97]⟩ : ByteArray) = S at *
  clear hS
  go_enter Try.func10, Try.ntmps10
  go_wp2_with (first
    | (go_at_call 20; refine (H20.out _).mono ?_; rintro e w1 ⟨rfl, b1⟩)
    | (go_at_call 21; refine (H21.out _).mono ?_; rintro e w2 ⟨rfl, b2⟩)
    | (go_at_call 22; refine (H22.out _).mono ?_; rintro e w3 ⟨q3, c3, rfl, o3, b3⟩))
  go_ret2
  have y2 := below_from b1 b2 b1.size
  exact ⟨q3, c3, rfl, o3.low y2.size, below_from y2 b3 y2.size⟩

set_option maxHeartbeats 400000 in
theorem formed_tick (w : World) :
    Calls Try.prog 13 #[.iface 59 (.agg #[])] w fun e w' => e = .returned (.bool true) ∧ Below w.heap.size w w' := by
  have H20 : Hid (∀ w, Calls Try.prog 20 #[.iface 59 (.agg #[])] w fun e w' => e = .returned (.iface 59 (.agg #[])) ∧ Below w.heap.size w w') := fun w => remade_at _ _ _ w (fun w => plainly11 PL.zero w) (fun w => make11 _ rfl w)
  have H21 : Hid (∀ w, Calls Try.prog 21 #[.iface 59 (.agg #[])] w fun e w' => e = .returned (.bool true) ∧ Below w.heap.size w w') := fun w => formed_ticked w
  go_enter Try.func13, Try.ntmps13
  go_wp2_with (first
    | (go_at_call 20; refine (H20.out _).mono ?_; rintro e w1 ⟨rfl, b1⟩)
    | (go_at_call 21; refine (H21.out _).mono ?_; rintro e w2 ⟨rfl, b2⟩))
  go_ret
  exact ⟨rfl, below_from b1 b2 b1.size⟩

theorem lies_three {w : World} : Lies (w.alloc (.cells #[.int .u8 3, .int .u8 1, .int .u8 97] 5)) (some ⟨w.heap.size, 0, none⟩) [3, 1, 97] := by
  refine .inr ⟨_, 0, rfl, fun k x hx => ?_⟩
  rw [Nat.zero_add, cell_of_row _ _ k _ 5 (0, 0) new0]
  match k, hx with
  | 0, hx | 1, hx | 2, hx => simp at hx; subst hx; rfl

set_option maxHeartbeats 400000 in
theorem awake_any (w : World) :
    Calls Try.prog 7 #[] w fun e w' => e = .returned (.bool true) ∧ Below w.heap.size w w' := by
  have H12 : Hid (∀ w, Calls Try.prog 10 #[.iface 57 (.agg #[.string ⟨#[97]⟩])] w fun e w' => ∃ q c, e = .returned (.tuple #[.slice q 3 c, .int .i64 0]) ∧ Own w' w.heap.size (.slice q 3 c) [3, 1, 97] ∧ Below w.heap.size w w') := fun w => encode_beat w
  have H13 : Hid (∀ w, Calls Try.prog 13 #[.iface 59 (.agg #[])] w fun e w' => e = .returned (.bool true) ∧ Below w.heap.size w w') := fun w => formed_tick w
  have H11 : Hid (∀ q c w0 w, Own w0 0 (.slice q 3 c) [3, 1, 97] → Below w0.heap.size w0 w → ∀ g, Lies w (some ⟨g, 0, none⟩) [3, 1, 97] → Calls Try.prog 12 #[.slice q 3 c, .slice (some ⟨g, 0, none⟩) 3 3] w fun e w' => e = .returned (.bool true) ∧ Below w.heap.size w w') := fun q c w0 w h b g hg => by
    have := same_any [3, 1, 97] [3, 1, 97] q (some ⟨g, 0, none⟩) c 3 w (by decide) (own_parts (h.keep b)).1 hg
    simpa using this
  go_enter Try.func7, Try.ntmps7
  go_wp2_with (first
    | (go_at_call 10; refine (H12.out _).mono ?_; rintro e w1 ⟨q1, c1, rfl, o1, b1⟩)
    | (go_at_call 12; refine (H11.out _ _ w1 _ (o1.low (Nat.zero_le _)) ((Below.refl _ w1).alloc (Nat.le_refl _) _) _ lies_three).mono ?_; rintro e w2 ⟨rfl, b2⟩)
    | (go_at_call 13; refine (H13.out _).mono ?_; rintro e w3 ⟨rfl, b3⟩))
  go_ret
  have y1 := b1.alloc b1.size (.cells #[.int .u8 3, .int .u8 1, .int .u8 97] 5)
  have y2 := below_from y1 b2 y1.size
  exact ⟨rfl, below_from y2 b3 y2.size⟩

end Go.Proofs.Ytnkkiepoljbhlaa
