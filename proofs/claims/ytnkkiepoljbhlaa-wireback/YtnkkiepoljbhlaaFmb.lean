/-
  formedTenant and the kinds of formed that have no list.
-/
import Derived.Test.YtnkkiepoljbhlaaFma
namespace Go.Proofs.Ytnkkiepoljbhlaa
open Go.RowKit
set_option maxHeartbeats 1000000 in
set_option maxRecDepth 100000 in
theorem tenant_at (n : ByteArray) (tw a b c d : Int) (w : World) (x y z : Bool) (hs : n.size ≤ 9223372036854775000) (hx : Txt.name n = x) (hy : wi tw 1 1000 = y) (hz : fm a b c d = z) :
    Calls Try.prog 39 #[.agg #[.string n, .int .i64 tw, .int .i64 a, .int .i64 b, .int .i64 c, .int .i64 d]] w fun e w' => e = .returned (.bool (x && y && z)) ∧ Below w.heap.size w w' := by
  have H40 : Hid (∀ w, Calls Try.prog 40 #[.string n] w fun e w' => e = .returned (.bool x) ∧ Below w.heap.size w w') := fun w => name_is n x w hs hx
  have H41 : Hid (∀ w, Calls Try.prog 41 #[.int .i64 tw, .int .i64 1, .int .i64 1000] w fun e w' => e = .returned (.bool y) ∧ Below w.heap.size w w') := fun w => hy ▸ within_any tw 1 1000 w
  have H42 : Hid (∀ w, Calls Try.prog 42 #[.agg #[.int .i64 a, .int .i64 b, .int .i64 c, .int .i64 d]] w fun e w' => e = .returned (.bool z) ∧ Below w.heap.size w w') := fun w => hz ▸ vformed_any a b c d w
  clear hx hy hz
  go_enter Try.func39, Try.ntmps39
  go_upto_region 1 with fail
  have p1 := new0 (w := w) (o := .cells #[.string n, .int .i64 tw, .int .i64 a, .int .i64 b, .int .i64 c, .int .i64 d] 25)
  have y1 : Hid (Below w.heap.size w (w.alloc (.cells #[.string n, .int .i64 tw, .int .i64 a, .int .i64 b, .int .i64 c, .int .i64 d] 25))) := (Below.refl _ w).alloc (Nat.le_refl _) _
  have P1 : Hid _ := p1
  clear p1
  generalize w.alloc (.cells #[.string n, .int .i64 tw, .int .i64 a, .int .i64 b, .int .i64 c, .int .i64 d] 25) = W at *
  have c6 : ∀ {V : World}, V.heap[w.heap.size]? = some (.cells #[.string n, .int .i64 tw, .int .i64 a, .int .i64 b, .int .i64 c, .int .i64 d] 25 (0, 0)) → V.cell? ⟨w.heap.size, 0, none⟩ = some (.string n) ∧ V.cell? ⟨w.heap.size, 1, none⟩ = some (.int .i64 tw) ∧ V.cell? ⟨w.heap.size, 2, none⟩ = some (.int .i64 a) ∧ V.cell? ⟨w.heap.size, 3, none⟩ = some (.int .i64 b) ∧ V.cell? ⟨w.heap.size, 4, none⟩ = some (.int .i64 c) ∧ V.cell? ⟨w.heap.size, 5, none⟩ = some (.int .i64 d) := fun h => ⟨Lib.cell_of_heap h 0, Lib.cell_of_heap h 1, Lib.cell_of_heap h 2, Lib.cell_of_heap h 3, Lib.cell_of_heap h 4, Lib.cell_of_heap h 5⟩
  have C6 : Hid _ := @c6
  clear c6
  obtain ⟨e0, e1, e2, e3, e4, e5⟩ := C6.out P1.out
  go_wp2_with (go_at_call 40; refine (H40.out _).mono ?_)
  rintro e w1 ⟨rfl, b1⟩
  have P2 : Hid _ := at_below b1 (Nat.le_refl _) P1.out
  have y2 : Hid _ := below_from y1.out b1 y1.out.size
  clear b1 e0 e1 e2 e3 e4 e5
  obtain ⟨e0, e1, e2, e3, e4, e5⟩ := C6.out P2.out
  cases x with
  | false =>
    go_wp2_with fail
    go_ret
    exact ⟨rfl, y2.out⟩
  | true =>
    go_wp2_with (go_at_call 41; refine (H41.out _).mono ?_)
    rintro e w2 ⟨rfl, b2⟩
    have P3 : Hid _ := at_below b2 (Nat.le_refl _) P2.out
    have y3 : Hid _ := below_from y2.out b2 y2.out.size
    clear b2 e0 e1 e2 e3 e4 e5
    obtain ⟨e0, e1, e2, e3, e4, e5⟩ := C6.out P3.out
    cases y with
    | false =>
      go_wp2_with fail
      go_ret
      exact ⟨rfl, y3.out⟩
    | true =>
      go_wp2_with (go_at_call 42; refine (H42.out _).mono ?_)
      rintro e w3 ⟨rfl, b3⟩
      go_wp2_with fail
      go_ret
      exact ⟨rfl, below_from y3.out b3 y3.out.size⟩
end Go.Proofs.Ytnkkiepoljbhlaa
