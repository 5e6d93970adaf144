/-
  formed, of the kinds that have no list.
-/
import Derived.Test.YtnkkiepoljbhlaaFmb
namespace Go.Proofs.Ytnkkiepoljbhlaa
open Go.RowKit

set_option maxHeartbeats 1000000 in
set_option maxRecDepth 100000 in
theorem formed1 (n : ByteArray) (tw a b c d : Int) (w : World) (hs : n.size ≤ 9223372036854775000) :
    Calls Try.prog 21 #[.iface 61 (.agg #[.string n, .int .i64 tw, .int .i64 a, .int .i64 b, .int .i64 c, .int .i64 d])] w fun e w' => e = .returned (.bool (Txt.name n && wi tw 1 1000 && fm a b c d)) ∧ Below w.heap.size w w' := by
  have HT : Hid (∀ w, Calls Try.prog 39 #[.agg #[.string n, .int .i64 tw, .int .i64 a, .int .i64 b, .int .i64 c, .int .i64 d]] w fun e w' => e = .returned (.bool (Txt.name n && wi tw 1 1000 && fm a b c d)) ∧ Below w.heap.size w w') := fun w => tenant_at n tw a b c d w _ _ _ hs rfl rfl rfl
  generalize (Txt.name n && wi tw 1 1000 && fm a b c d) = r at *
  have a1 := assert_yes (x := 35) (v := .agg #[.string n, .int .i64 tw, .int .i64 a, .int .i64 b, .int .i64 c, .int .i64 d]) Try.underlying61
  go_enter Try.func21, Try.ntmps21
  go_wp2_with (go_at_call 39; refine (HT.out _).mono ?_; rintro e w1 ⟨rfl, b1⟩)
  go_ret
  refine ⟨rfl, below_from ?_ b1 (by simp)⟩
  go_grown

set_option maxHeartbeats 1000000 in
set_option maxRecDepth 100000 in
theorem formed3 (n : ByteArray) (x : Bool) (w : World) (hs : n.size ≤ 9223372036854775000) (hx : Txt.name n = x) :
    Calls Try.prog 21 #[.iface 57 (.agg #[.string n])] w fun e w' => e = .returned (.bool x) ∧ Below w.heap.size w w' := by
  have H40 : Hid (∀ w, Calls Try.prog 40 #[.string n] w fun e w' => e = .returned (.bool x) ∧ Below w.heap.size w w') := fun w => name_is n x w hs hx
  clear hx
  have a1 := assert_no (t := 57) (x := 35) (v := .agg #[.string n]) (by simp) Try.underlying61 Try.zeroValue61
  have a2 := assert_no (t := 57) (x := 35) (v := .agg #[.string n]) (by simp) Try.underlying63 Try.zeroValue63
  have a3 := assert_yes (x := 35) (v := .agg #[.string n]) Try.underlying57
  go_enter Try.func21, Try.ntmps21
  go_wp2_with (go_at_call 40; refine (H40.out _).mono ?_; rintro e w1 ⟨rfl, b1⟩)
  go_ret
  refine ⟨rfl, below_from ?_ b1 (by simp)⟩
  go_grown

set_option maxHeartbeats 1000000 in
set_option maxRecDepth 100000 in
theorem formed4 (n : ByteArray) (x : Bool) (w : World) (hs : n.size ≤ 9223372036854775000) (hx : Txt.name n = x) :
    Calls Try.prog 21 #[.iface 64 (.agg #[.string n])] w fun e w' => e = .returned (.bool x) ∧ Below w.heap.size w w' := by
  have H40 : Hid (∀ w, Calls Try.prog 40 #[.string n] w fun e w' => e = .returned (.bool x) ∧ Below w.heap.size w w') := fun w => name_is n x w hs hx
  clear hx
  have a1 := assert_no (t := 64) (x := 35) (v := .agg #[.string n]) (by simp) Try.underlying61 Try.zeroValue61
  have a2 := assert_no (t := 64) (x := 35) (v := .agg #[.string n]) (by simp) Try.underlying63 Try.zeroValue63
  have a3 := assert_no (t := 64) (x := 35) (v := .agg #[.string n]) (by simp) Try.underlying57 Try.zeroValue57
  have a4 := assert_yes (x := 35) (v := .agg #[.string n]) Try.underlying64
  go_enter Try.func21, Try.ntmps21
  go_wp2_with (go_at_call 40; refine (H40.out _).mono ?_; rintro e w1 ⟨rfl, b1⟩)
  go_ret
  refine ⟨rfl, below_from ?_ b1 (by simp)⟩
  go_grown

set_option maxHeartbeats 1000000 in
set_option maxRecDepth 100000 in
theorem formed6 (i : Int) (w : World) :
    Calls Try.prog 21 #[.iface 68 (.agg #[.int .i64 i])] w fun e w' => e = .returned (.bool (wi i 1 100)) ∧ Below w.heap.size w w' := by
  have a1 := assert_no (t := 68) (x := 35) (v := .agg #[.int .i64 i]) (by simp) Try.underlying61 Try.zeroValue61
  have a2 := assert_no (t := 68) (x := 35) (v := .agg #[.int .i64 i]) (by simp) Try.underlying63 Try.zeroValue63
  have a3 := assert_no (t := 68) (x := 35) (v := .agg #[.int .i64 i]) (by simp) Try.underlying57 Try.zeroValue57
  have a4 := assert_no (t := 68) (x := 35) (v := .agg #[.int .i64 i]) (by simp) Try.underlying64 Try.zeroValue64
  have a5 := assert_no (t := 68) (x := 35) (v := .agg #[.int .i64 i]) (by simp) Try.underlying66 Try.zeroValue66
  have a6 := assert_yes (x := 35) (v := .agg #[.int .i64 i]) Try.underlying68
  go_enter Try.func21, Try.ntmps21
  go_wp2_with (go_at_call 44; refine (jnumber_any i _).mono ?_; rintro e w1 ⟨rfl, b1⟩)
  go_ret
  refine ⟨rfl, below_from ?_ b1 (by simp)⟩
  go_grown

set_option maxHeartbeats 1000000 in
set_option maxRecDepth 100000 in
theorem formed8 (i : Int) (w : World) :
    Calls Try.prog 21 #[.iface 71 (.agg #[.int .i64 i])] w fun e w' => e = .returned (.bool (wi i 1 100)) ∧ Below w.heap.size w w' := by
  have a1 := assert_no (t := 71) (x := 35) (v := .agg #[.int .i64 i]) (by simp) Try.underlying61 Try.zeroValue61
  have a2 := assert_no (t := 71) (x := 35) (v := .agg #[.int .i64 i]) (by simp) Try.underlying63 Try.zeroValue63
  have a3 := assert_no (t := 71) (x := 35) (v := .agg #[.int .i64 i]) (by simp) Try.underlying57 Try.zeroValue57
  have a4 := assert_no (t := 71) (x := 35) (v := .agg #[.int .i64 i]) (by simp) Try.underlying64 Try.zeroValue64
  have a5 := assert_no (t := 71) (x := 35) (v := .agg #[.int .i64 i]) (by simp) Try.underlying66 Try.zeroValue66
  have a6 := assert_no (t := 71) (x := 35) (v := .agg #[.int .i64 i]) (by simp) Try.underlying68 Try.zeroValue68
  have a7 := assert_no (t := 71) (x := 35) (v := .agg #[.int .i64 i]) (by simp) Try.underlying70 Try.zeroValue70
  have a8 := assert_yes (x := 35) (v := .agg #[.int .i64 i]) Try.underlying71
  go_enter Try.func21, Try.ntmps21
  go_wp2_with (go_at_call 44; refine (jnumber_any i _).mono ?_; rintro e w1 ⟨rfl, b1⟩)
  go_ret
  refine ⟨rfl, below_from ?_ b1 (by simp)⟩
  go_grown

set_option maxHeartbeats 1000000 in
set_option maxRecDepth 100000 in
theorem formed11 (w : World) :
    Calls Try.prog 21 #[.iface 59 (.agg #[])] w fun e w' => e = .returned (.bool true) ∧ Below w.heap.size w w' := by
  have a1 := assert_no (t := 59) (x := 35) (v := .agg #[]) (by simp) Try.underlying61 Try.zeroValue61
  have a2 := assert_no (t := 59) (x := 35) (v := .agg #[]) (by simp) Try.underlying63 Try.zeroValue63
  have a3 := assert_no (t := 59) (x := 35) (v := .agg #[]) (by simp) Try.underlying57 Try.zeroValue57
  have a4 := assert_no (t := 59) (x := 35) (v := .agg #[]) (by simp) Try.underlying64 Try.zeroValue64
  have a5 := assert_no (t := 59) (x := 35) (v := .agg #[]) (by simp) Try.underlying66 Try.zeroValue66
  have a6 := assert_no (t := 59) (x := 35) (v := .agg #[]) (by simp) Try.underlying68 Try.zeroValue68
  have a7 := assert_no (t := 59) (x := 35) (v := .agg #[]) (by simp) Try.underlying70 Try.zeroValue70
  have a8 := assert_no (t := 59) (x := 35) (v := .agg #[]) (by simp) Try.underlying71 Try.zeroValue71
  have a9 := assert_no (t := 59) (x := 35) (v := .agg #[]) (by simp) Try.underlying73 Try.zeroValue73
  have a10 := assert_no (t := 59) (x := 35) (v := .agg #[]) (by simp) Try.underlying75 Try.zeroValue75
  have a11 := assert_yes (x := 35) (v := .agg #[]) Try.underlying59
  go_enter Try.func21, Try.ntmps21
  go_wp2_with fail
  go_ret
  exact ⟨rfl, by go_grown⟩

set_option maxHeartbeats 1000000 in
set_option maxRecDepth 100000 in
theorem formed0 (w : World) :
    Calls Try.prog 21 #[.nilIface] w fun e w' => e = .returned (.bool false) ∧ Below w.heap.size w w' := by
  have a1 := assert_nil (x := 35) Try.underlying61 Try.zeroValue61
  have a2 := assert_nil (x := 35) Try.underlying63 Try.zeroValue63
  have a3 := assert_nil (x := 35) Try.underlying57 Try.zeroValue57
  have a4 := assert_nil (x := 35) Try.underlying64 Try.zeroValue64
  have a5 := assert_nil (x := 35) Try.underlying66 Try.zeroValue66
  have a6 := assert_nil (x := 35) Try.underlying68 Try.zeroValue68
  have a7 := assert_nil (x := 35) Try.underlying70 Try.zeroValue70
  have a8 := assert_nil (x := 35) Try.underlying71 Try.zeroValue71
  have a9 := assert_nil (x := 35) Try.underlying73 Try.zeroValue73
  have a10 := assert_nil (x := 35) Try.underlying75 Try.zeroValue75
  have a11 := assert_nil (x := 35) Try.underlying59 Try.zeroValue59
  go_enter Try.func21, Try.ntmps21
  go_wp2_with fail
  go_ret
  exact ⟨rfl, by go_grown⟩

set_option maxHeartbeats 1000000 in
set_option maxRecDepth 100000 in
theorem formed9 (n : ByteArray) (i : Int) (x y : Bool) (w : World) (hs : n.size ≤ 9223372036854775000) (hx : wi i 1 100 = x) (hy : Txt.name n = y) :
    Calls Try.prog 21 #[.iface 73 (.agg #[.int .i64 i, .string n])] w fun e w' => e = .returned (.bool (x && y)) ∧ Below w.heap.size w w' := by
  have H1 : Hid (∀ w, Calls Try.prog 44 #[.int .i64 i] w fun e w' => e = .returned (.bool x) ∧ Below w.heap.size w w') := fun w => hx ▸ jnumber_any i w
  have H2 : Hid (∀ w, Calls Try.prog 40 #[.string n] w fun e w' => e = .returned (.bool y) ∧ Below w.heap.size w w') := fun w => name_is n y w hs hy
  clear hx hy
  have a1 := assert_no (t := 73) (x := 35) (v := .agg #[.int .i64 i, .string n]) (by simp) Try.underlying61 Try.zeroValue61
  have a2 := assert_no (t := 73) (x := 35) (v := .agg #[.int .i64 i, .string n]) (by simp) Try.underlying63 Try.zeroValue63
  have a3 := assert_no (t := 73) (x := 35) (v := .agg #[.int .i64 i, .string n]) (by simp) Try.underlying57 Try.zeroValue57
  have a4 := assert_no (t := 73) (x := 35) (v := .agg #[.int .i64 i, .string n]) (by simp) Try.underlying64 Try.zeroValue64
  have a5 := assert_no (t := 73) (x := 35) (v := .agg #[.int .i64 i, .string n]) (by simp) Try.underlying66 Try.zeroValue66
  have a6 := assert_no (t := 73) (x := 35) (v := .agg #[.int .i64 i, .string n]) (by simp) Try.underlying68 Try.zeroValue68
  have a7 := assert_no (t := 73) (x := 35) (v := .agg #[.int .i64 i, .string n]) (by simp) Try.underlying70 Try.zeroValue70
  have a8 := assert_no (t := 73) (x := 35) (v := .agg #[.int .i64 i, .string n]) (by simp) Try.underlying71 Try.zeroValue71
  have a9 := assert_yes (x := 35) (v := .agg #[.int .i64 i, .string n]) Try.underlying73
  go_enter Try.func21, Try.ntmps21
  go_upto_region 28 with fail
  have P1 : Hid _ := new0 (w := w) (o := .cells #[.int .i64 i, .string n] 73)
  have y1 : Hid (Below w.heap.size w (w.alloc (.cells #[.int .i64 i, .string n] 73))) := (Below.refl _ w).alloc (Nat.le_refl _) _
  generalize w.alloc (.cells #[.int .i64 i, .string n] 73) = W at *
  have e0 := Lib.cell_of_heap P1.out 0
  go_wp2_with (go_at_call 44; refine (H1.out _).mono ?_)
  rintro e w1 ⟨rfl, b1⟩
  have P2 : Hid _ := at_below b1 (Nat.le_refl _) P1.out
  have y2 : Hid _ := below_from y1.out b1 y1.out.size
  clear b1 e0
  have e1 := Lib.cell_of_heap P2.out 1
  cases x with
  | false =>
    go_wp2_with fail
    go_ret
    exact ⟨rfl, y2.out⟩
  | true =>
    go_wp2_with (go_at_call 40; refine (H2.out _).mono ?_)
    rintro e w2 ⟨rfl, b2⟩
    go_wp2_with fail
    go_ret
    exact ⟨rfl, below_from y2.out b2 y2.out.size⟩

set_option maxHeartbeats 1000000 in
set_option maxRecDepth 100000 in
theorem formed10 (i s : Int) (x y : Bool) (w : World) (hx : wi i 1 100 = x) (hy : es s = y) :
    Calls Try.prog 21 #[.iface 75 (.agg #[.int .i64 i, .int .i64 s])] w fun e w' => e = .returned (.bool (x && y)) ∧ Below w.heap.size w w' := by
  have H1 : Hid (∀ w, Calls Try.prog 44 #[.int .i64 i] w fun e w' => e = .returned (.bool x) ∧ Below w.heap.size w w') := fun w => hx ▸ jnumber_any i w
  have H2 : Hid (∀ w, Calls Try.prog 46 #[.int .i64 s] w fun e w' => e = .returned (.bool y) ∧ Below w.heap.size w w') := fun w => hy ▸ endState_any s w
  clear hx hy
  have a1 := assert_no (t := 75) (x := 35) (v := .agg #[.int .i64 i, .int .i64 s]) (by simp) Try.underlying61 Try.zeroValue61
  have a2 := assert_no (t := 75) (x := 35) (v := .agg #[.int .i64 i, .int .i64 s]) (by simp) Try.underlying63 Try.zeroValue63
  have a3 := assert_no (t := 75) (x := 35) (v := .agg #[.int .i64 i, .int .i64 s]) (by simp) Try.underlying57 Try.zeroValue57
  have a4 := assert_no (t := 75) (x := 35) (v := .agg #[.int .i64 i, .int .i64 s]) (by simp) Try.underlying64 Try.zeroValue64
  have a5 := assert_no (t := 75) (x := 35) (v := .agg #[.int .i64 i, .int .i64 s]) (by simp) Try.underlying66 Try.zeroValue66
  have a6 := assert_no (t := 75) (x := 35) (v := .agg #[.int .i64 i, .int .i64 s]) (by simp) Try.underlying68 Try.zeroValue68
  have a7 := assert_no (t := 75) (x := 35) (v := .agg #[.int .i64 i, .int .i64 s]) (by simp) Try.underlying70 Try.zeroValue70
  have a8 := assert_no (t := 75) (x := 35) (v := .agg #[.int .i64 i, .int .i64 s]) (by simp) Try.underlying71 Try.zeroValue71
  have a9 := assert_no (t := 75) (x := 35) (v := .agg #[.int .i64 i, .int .i64 s]) (by simp) Try.underlying73 Try.zeroValue73
  have a10 := assert_yes (x := 35) (v := .agg #[.int .i64 i, .int .i64 s]) Try.underlying75
  go_enter Try.func21, Try.ntmps21
  go_upto_region 31 with fail
  have P1 : Hid _ := new0 (w := w) (o := .cells #[.int .i64 i, .int .i64 s] 75)
  have y1 : Hid (Below w.heap.size w (w.alloc (.cells #[.int .i64 i, .int .i64 s] 75))) := (Below.refl _ w).alloc (Nat.le_refl _) _
  generalize w.alloc (.cells #[.int .i64 i, .int .i64 s] 75) = W at *
  have e0 := Lib.cell_of_heap P1.out 0
  go_wp2_with (go_at_call 44; refine (H1.out _).mono ?_)
  rintro e w1 ⟨rfl, b1⟩
  have P2 : Hid _ := at_below b1 (Nat.le_refl _) P1.out
  have y2 : Hid _ := below_from y1.out b1 y1.out.size
  clear b1 e0
  have e1 := Lib.cell_of_heap P2.out 1
  cases x with
  | false =>
    go_wp2_with fail
    go_ret
    exact ⟨rfl, y2.out⟩
  | true =>
    go_wp2_with (go_at_call 46; refine (H2.out _).mono ?_)
    rintro e w2 ⟨rfl, b2⟩
    go_wp2_with fail
    go_ret
    exact ⟨rfl, below_from y2.out b2 y2.out.size⟩

end Go.Proofs.Ytnkkiepoljbhlaa
