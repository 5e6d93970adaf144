/-
  The reference's Tenant; formed of a node that joins.
-/
import Derived.Test.YtnkkiepoljbhlaaFmb
import Derived.Test.YtnkkiepoljbhlaaRnm
namespace Go.Proofs.Ytnkkiepoljbhlaa
open Go.RowKit

theorem rname_is (s : ByteArray) (b : Bool) (w : World) (hs : s.size ≤ 9223372036854775000) (h : Txt.name s = b) :
    Calls Try.prog 28 #[.string s] w fun e w' => e = .returned (.bool b) ∧ Below w.heap.size w w' := by
  refine (rname_any s w hs).mono ?_
  rintro e w' ⟨rfl, rfl⟩
  exact ⟨by rw [h], Below.refl _ _⟩

set_option maxHeartbeats 1000000 in
set_option maxRecDepth 100000 in
theorem rtenant_at (n : ByteArray) (tw a b c d : Int) (w : World) (x z : Bool) (hs : n.size ≤ 9223372036854775000) (hx : Txt.name n = x) (hz : fm a b c d = z) :
    Calls Try.prog 27 #[.agg #[.string n, .int .i64 tw, .int .i64 a, .int .i64 b, .int .i64 c, .int .i64 d]] w fun e w' => e = .returned (.bool (x && wi tw 1 1000 && z)) ∧ Below w.heap.size w w' := by
  have H40 : Hid (∀ w, Calls Try.prog 28 #[.string n] w fun e w' => e = .returned (.bool x) ∧ Below w.heap.size w w') := fun w => rname_is n x w hs hx
  have H42 : Hid (∀ w, Calls Try.prog 29 #[.agg #[.int .i64 a, .int .i64 b, .int .i64 c, .int .i64 d]] w fun e w' => e = .returned (.bool z) ∧ Below w.heap.size w w') := fun w => hz ▸ rvformed_any a b c d w
  clear hx hz
  go_enter Try.func27, Try.ntmps27
  go_upto_region 1 with fail
  have P1 : Hid _ := new0 (w := w) (o := .cells #[.string n, .int .i64 tw, .int .i64 a, .int .i64 b, .int .i64 c, .int .i64 d] 25)
  have y1 : Hid (Below w.heap.size w (w.alloc (.cells #[.string n, .int .i64 tw, .int .i64 a, .int .i64 b, .int .i64 c, .int .i64 d] 25))) := (Below.refl _ w).alloc (Nat.le_refl _) _
  generalize w.alloc (.cells #[.string n, .int .i64 tw, .int .i64 a, .int .i64 b, .int .i64 c, .int .i64 d] 25) = W at *
  have c6 : ∀ {V : World}, V.heap[w.heap.size]? = some (.cells #[.string n, .int .i64 tw, .int .i64 a, .int .i64 b, .int .i64 c, .int .i64 d] 25 (0, 0)) → V.cell? ⟨w.heap.size, 0, none⟩ = some (.string n) ∧ V.cell? ⟨w.heap.size, 1, none⟩ = some (.int .i64 tw) ∧ V.cell? ⟨w.heap.size, 2, none⟩ = some (.int .i64 a) ∧ V.cell? ⟨w.heap.size, 3, none⟩ = some (.int .i64 b) ∧ V.cell? ⟨w.heap.size, 4, none⟩ = some (.int .i64 c) ∧ V.cell? ⟨w.heap.size, 5, none⟩ = some (.int .i64 d) := fun h => ⟨Lib.cell_of_heap h 0, Lib.cell_of_heap h 1, Lib.cell_of_heap h 2, Lib.cell_of_heap h 3, Lib.cell_of_heap h 4, Lib.cell_of_heap h 5⟩
  have C6 : Hid _ := @c6
  clear c6
  obtain ⟨e0, e1, e2, e3, e4, e5⟩ := C6.out P1.out
  go_wp2_with (go_at_call 28; refine (H40.out _).mono ?_)
  rintro e w1 ⟨rfl, b1⟩
  have P2 : Hid _ := at_below b1 (Nat.le_refl _) P1.out
  have y2 : Hid _ := below_from y1.out b1 y1.out.size
  clear b1 e0 e1 e2 e3 e4 e5
  obtain ⟨e0, e1, e2, e3, e4, e5⟩ := C6.out P2.out
  cases x with
  | false =>
    go_wp2_with fail
    go_ret
    exact ⟨rfl, y2.out⟩
  | true =>
    by_cases h1 : 1 ≤ tw
    · by_cases h2 : tw ≤ 1000
      · have HW : Hid (wi tw 1 1000 = true) := by unfold Hid wi; simp [h1, h2]
        go_wp2_with (go_at_call 29; refine (H42.out _).mono ?_)
        rintro e w3 ⟨rfl, b3⟩
        go_wp2_with fail
        go_ret
        exact ⟨by rw [HW.out]; rfl, below_from y2.out b3 y2.out.size⟩
      · have HW : Hid (wi tw 1 1000 = false) := by unfold Hid wi; simp; omega
        have h3 : decide (tw ≤ 1000) = false := by simp; omega
        go_wp2_with fail
        go_ret
        exact ⟨by rw [HW.out]; rfl, y2.out⟩
    · have HW : Hid (wi tw 1 1000 = false) := by unfold Hid wi; simp; omega
      have h3 : decide (1 ≤ tw) = false := by simp; omega
      go_wp2_with fail
      go_ret
      exact ⟨by rw [HW.out]; rfl, y2.out⟩

set_option maxHeartbeats 1000000 in
set_option maxRecDepth 100000 in
theorem formed2 (n : ByteArray) (tw a b c d : Int) (w : World) (x y z : Bool) (hs : n.size ≤ 9223372036854775000) (hx : Txt.name n = x) (hy : wi tw 1 2147483647 = y) (hz : fm a b c d = z) :
    Calls Try.prog 21 #[.iface 63 (.agg #[.string n, .int .i64 tw, .int .i64 a, .int .i64 b, .int .i64 c, .int .i64 d])] w fun e w' => e = .returned (.bool (x && y && z)) ∧ Below w.heap.size w w' := by
  have H40 : Hid (∀ w, Calls Try.prog 40 #[.string n] w fun e w' => e = .returned (.bool x) ∧ Below w.heap.size w w') := fun w => name_is n x w hs hx
  have H41 : Hid (∀ w, Calls Try.prog 41 #[.int .i64 tw, .int .i64 1, .int .i64 2147483647] w fun e w' => e = .returned (.bool y) ∧ Below w.heap.size w w') := fun w => hy ▸ within_any tw 1 2147483647 w
  have H42 : Hid (∀ w, Calls Try.prog 42 #[.agg #[.int .i64 a, .int .i64 b, .int .i64 c, .int .i64 d]] w fun e w' => e = .returned (.bool z) ∧ Below w.heap.size w w') := fun w => hz ▸ vformed_any a b c d w
  clear hx hy hz
  have a1 := assert_no (t := 63) (x := 35) (v := .agg #[.string n, .int .i64 tw, .int .i64 a, .int .i64 b, .int .i64 c, .int .i64 d]) (by simp) Try.underlying61 Try.zeroValue61
  have a2 := assert_yes (x := 35) (v := .agg #[.string n, .int .i64 tw, .int .i64 a, .int .i64 b, .int .i64 c, .int .i64 d]) Try.underlying63
  go_enter Try.func21, Try.ntmps21
  go_upto_region 7 with fail
  have P1 : Hid _ := new0 (w := w) (o := .cells #[.string n, .int .i64 tw, .int .i64 a, .int .i64 b, .int .i64 c, .int .i64 d] 63)
  have y1 : Hid (Below w.heap.size w (w.alloc (.cells #[.string n, .int .i64 tw, .int .i64 a, .int .i64 b, .int .i64 c, .int .i64 d] 63))) := (Below.refl _ w).alloc (Nat.le_refl _) _
  generalize w.alloc (.cells #[.string n, .int .i64 tw, .int .i64 a, .int .i64 b, .int .i64 c, .int .i64 d] 63) = W at *
  have c6 : ∀ {V : World}, V.heap[w.heap.size]? = some (.cells #[.string n, .int .i64 tw, .int .i64 a, .int .i64 b, .int .i64 c, .int .i64 d] 63 (0, 0)) → V.cell? ⟨w.heap.size, 0, none⟩ = some (.string n) ∧ V.cell? ⟨w.heap.size, 1, none⟩ = some (.int .i64 tw) ∧ V.cell? ⟨w.heap.size, 2, none⟩ = some (.int .i64 a) ∧ V.cell? ⟨w.heap.size, 3, none⟩ = some (.int .i64 b) ∧ V.cell? ⟨w.heap.size, 4, none⟩ = some (.int .i64 c) ∧ V.cell? ⟨w.heap.size, 5, none⟩ = some (.int .i64 d) := fun h => ⟨Lib.cell_of_heap h 0, Lib.cell_of_heap h 1, Lib.cell_of_heap h 2, Lib.cell_of_heap h 3, Lib.cell_of_heap h 4, Lib.cell_of_heap h 5⟩
  have C6 : Hid _ := @c6
  clear c6
  obtain ⟨e0, e1, e2, e3, e4, e5⟩ := C6.out P1.out
  go_wp2_with (go_at_call 40; refine (H40.out _).mono ?_)
  rintro e w1 ⟨rfl, b1⟩
  have P2 : Hid _ := at_below b1 (Nat.le_refl _) P1.out
  have y2 : Hid _ := below_from y1.out b1 y1.out.size
  clear b1 e0 e1 e2 e3 e4 e5
  obtain ⟨e0, e1, e2, e3, e4, e5⟩ := C6.out P2.out
  cases x with
  | false =>
    go_wp2_with fail
    go_ret
    exact ⟨rfl, y2.out⟩
  | true =>
    go_wp2_with (go_at_call 41; refine (H41.out _).mono ?_)
    rintro e w2 ⟨rfl, b2⟩
    have P3 : Hid _ := at_below b2 (Nat.le_refl _) P2.out
    have y3 : Hid _ := below_from y2.out b2 y2.out.size
    clear b2 e0 e1 e2 e3 e4 e5
    obtain ⟨e0, e1, e2, e3, e4, e5⟩ := C6.out P3.out
    cases y with
    | false =>
      go_wp2_with fail
      go_ret
      exact ⟨rfl, y3.out⟩
    | true =>
      go_wp2_with (go_at_call 42; refine (H42.out _).mono ?_)
      rintro e w3 ⟨rfl, b3⟩
      go_wp2_with fail
      go_ret
      exact ⟨rfl, below_from y3.out b3 y3.out.size⟩
end Go.Proofs.Ytnkkiepoljbhlaa
