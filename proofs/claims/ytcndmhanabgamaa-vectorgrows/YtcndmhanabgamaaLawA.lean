/-
  awake, and the walks of VectorAsks.
-/
import Derived.Test.YtcndmhanabgamaaWalkG
import Derived.Test.YtcndmhanabgamaaEq
import Derived.Lib.QuietBelow
import Derived.Deep.RegionHeld3
import Derived.Deep.CutRange
import Derived.Deep.DeepCutAuto
namespace Go.Proofs.Ytcndmhanabgamaa
open Go.RowKit Go.Sort

set_option maxHeartbeats 1000000 in
theorem awake_any (w : World) : Calls Try.prog 9 #[] w fun e w' => e = .returned (.bool true) ∧ Below w.heap.size w w' := by
  have HA : Hid (∀ w, Calls Try.prog 16 #[.agg #[.int .i64 1, .int .i64 2, .int .i64 0, .int .i64 0], .agg #[.int .i64 1, .int .i64 0, .int .i64 0, .int .i64 0]] w fun e w' => e = .returned (.tuple #[.agg #[.int .i64 2, .int .i64 2, .int .i64 0, .int .i64 0], .int .i64 0]) ∧ Below w.heap.size w w') := fun w => add_any 1 2 0 0 1 0 0 0 w
  have HF : Hid (∀ w, Calls Try.prog 12 #[.agg #[.int .i64 1, .int .i64 0, .int .i64 0, .int .i64 0], .agg #[.int .i64 2, .int .i64 2, .int .i64 0, .int .i64 0]] w fun e w' => e = .returned (.bool true) ∧ Below w.heap.size w w') := fun w => fits_any 1 0 0 0 2 2 0 0 w
  have HO : Hid (∀ w, Calls Try.prog 10 #[.agg #[.int .i64 2, .int .i64 2, .int .i64 0, .int .i64 0]] w fun e w' => e = .returned (.bool true) ∧ Below w.heap.size w w') := fun w => formed_any 2 2 0 0 w
  have q1 : ∀ w, (Op.equalIn 10000 23 (.agg #[.int .i64 2, .int .i64 2, .int .i64 0, .int .i64 0]) (.agg #[.int .i64 2, .int .i64 2, .int .i64 0, .int .i64 0])).run Try.prog w = .ok true w := fun w => eq4 2 2 0 0 2 2 0 0 w
  go_enter Try.func9, Try.ntmps9
  go_wp2_with (first
    | (go_at_call 16; refine (HA.out _).mono ?_; rintro e w1 ⟨rfl, b1⟩)
    | (go_at_call 12; refine (HF.out _).mono ?_; rintro e w2 ⟨rfl, b2⟩; have z1 := at_below b2 (Nat.le_refl _) new0; obtain ⟨r0, r1, r2, r3, rf0, rf1, rf2, rf3, rs, rn⟩ := cells4 z1)
    | (go_at_call 10; refine (HO.out _).mono ?_; rintro e w3 ⟨rfl, b3⟩))
  go_ret
  exact ⟨rfl, below_from (below_from (b1.alloc b1.size _) b2 (by have := b1.size; simp; omega)) b3 (by have := b1.size; have h2 := b2.size; simp at h2; omega)⟩

theorem boxes {w : World} {a b c d e f g h : Value} {s t : TypeId} :
    ((w.alloc (.cells #[a, b, c, d] s)).alloc (.cells #[e, f, g, h] t)).cell? ⟨w.heap.size, 0, none⟩ = some a ∧ ((w.alloc (.cells #[a, b, c, d] s)).alloc (.cells #[e, f, g, h] t)).cell? ⟨w.heap.size, 1, none⟩ = some b ∧ ((w.alloc (.cells #[a, b, c, d] s)).alloc (.cells #[e, f, g, h] t)).cell? ⟨w.heap.size, 2, none⟩ = some c ∧ ((w.alloc (.cells #[a, b, c, d] s)).alloc (.cells #[e, f, g, h] t)).cell? ⟨w.heap.size, 3, none⟩ = some d ∧
    ((w.alloc (.cells #[a, b, c, d] s)).alloc (.cells #[e, f, g, h] t)).cell? ⟨w.heap.size + 1, 0, none⟩ = some e ∧ ((w.alloc (.cells #[a, b, c, d] s)).alloc (.cells #[e, f, g, h] t)).cell? ⟨w.heap.size + 1, 1, none⟩ = some f ∧ ((w.alloc (.cells #[a, b, c, d] s)).alloc (.cells #[e, f, g, h] t)).cell? ⟨w.heap.size + 1, 2, none⟩ = some g ∧ ((w.alloc (.cells #[a, b, c, d] s)).alloc (.cells #[e, f, g, h] t)).cell? ⟨w.heap.size + 1, 3, none⟩ = some h :=
  ⟨Lib.cell_of_heap first0 0, Lib.cell_of_heap first0 1, Lib.cell_of_heap first0 2, Lib.cell_of_heap first0 3, Lib.cell_of_heap first1 0, Lib.cell_of_heap first1 1, Lib.cell_of_heap first1 2, Lib.cell_of_heap first1 3⟩

theorem grown {W : World} {f : FuncId} {args : Array Value} {v : Value} (H : Hid (∀ w, Calls Try.prog f args w fun e w' => e = .returned v ∧ Below w.heap.size w w')) :
    Hid (∀ d os, Calls Try.prog f args (grow (redrawn W d) os) fun e w'' => e = .returned v ∧ ∃ p : Regrown, w'' = grow (redrawn W p.d) p.os) := fun _ _ => Calls.regrown_of (H.out _)

set_option maxHeartbeats 4000000 in
theorem asks_at (a b c d e f g h o : Int) (x1 x2 : Bool) (w : World)
    (H9 : Hid (∀ w, Calls Try.prog 9 #[] w fun e w' => e = .returned (.bool true) ∧ Below w.heap.size w w'))
    (H10 : Hid (∀ w, Calls Try.prog 10 #[.agg #[.int .i64 a, .int .i64 b, .int .i64 c, .int .i64 d]] w fun e w' => e = .returned (.bool x1) ∧ Below w.heap.size w w'))
    (H11 : Hid (∀ w, Calls Try.prog 11 #[.agg #[.int .i64 a, .int .i64 b, .int .i64 c, .int .i64 d]] w fun e w' => e = .returned (.bool x1) ∧ Below w.heap.size w w'))
    (H12 : Hid (∀ w, Calls Try.prog 12 #[.agg #[.int .i64 a, .int .i64 b, .int .i64 c, .int .i64 d], .agg #[.int .i64 e, .int .i64 f, .int .i64 g, .int .i64 h]] w fun e w' => e = .returned (.bool x2) ∧ Below w.heap.size w w'))
    (H13 : Hid (∀ w, Calls Try.prog 13 #[.agg #[.int .i64 a, .int .i64 b, .int .i64 c, .int .i64 d], .agg #[.int .i64 e, .int .i64 f, .int .i64 g, .int .i64 h]] w fun e w' => e = .returned (.bool x2) ∧ Below w.heap.size w w'))
    (H14 : Hid (∀ w, Calls Try.prog 14 #[.agg #[.int .i64 a, .int .i64 b, .int .i64 c, .int .i64 d], .agg #[.int .i64 e, .int .i64 f, .int .i64 g, .int .i64 h]] w fun e w' => e = .returned (.int .i64 o) ∧ Below w.heap.size w w'))
    (H15 : Hid (∀ w, Calls Try.prog 15 #[.agg #[.int .i64 a, .int .i64 b, .int .i64 c, .int .i64 d], .agg #[.int .i64 e, .int .i64 f, .int .i64 g, .int .i64 h]] w fun e w' => e = .returned (.int .i64 o) ∧ Below w.heap.size w w')) :
    Calls Try.prog 3 #[.agg #[.int .i64 a, .int .i64 b, .int .i64 c, .int .i64 d], .agg #[.int .i64 e, .int .i64 f, .int .i64 g, .int .i64 h]] w fun r w' => r = .returned (.bool true) ∧ Below w.heap.size w w' := by
  go_enter Try.func3, Try.ntmps3
  go_wp2_with fail
  have hb : Below w.heap.size w ((w.alloc (.cells #[.int .i64 a, .int .i64 b, .int .i64 c, .int .i64 d] 23)).alloc (.cells #[.int .i64 e, .int .i64 f, .int .i64 g, .int .i64 h] 23)) := ((Below.refl _ w).alloc (Nat.le_refl _) _).alloc (by simp) _
  obtain ⟨k0, k1, k2, k3, k4, k5, k6, k7⟩ := boxes (w := w) (a := .int .i64 a) (b := .int .i64 b) (c := .int .i64 c) (d := .int .i64 d) (e := .int .i64 e) (f := .int .i64 f) (g := .int .i64 g) (h := .int .i64 h) (s := 23) (t := 23)
  generalize ((w.alloc (.cells #[.int .i64 a, .int .i64 b, .int .i64 c, .int .i64 d] 23)).alloc (.cells #[.int .i64 e, .int .i64 f, .int .i64 g, .int .i64 h] 23)) = W at *
  have m0 := cell_regrown k0
  have m1 := cell_regrown k1
  have m2 := cell_regrown k2
  have m3 := cell_regrown k3
  have m4 := cell_regrown k4
  have m5 := cell_regrown k5
  have m6 := cell_regrown k6
  have m7 := cell_regrown k7
  have G9 := grown (W := W) H9
  have G10 := grown (W := W) H10
  have G11 := grown (W := W) H11
  have G12 := grown (W := W) H12
  have G13 := grown (W := W) H13
  have G14 := grown (W := W) H14
  have G15 := grown (W := W) H15
  clear H9 H10 H11 H12 H13 H14 H15
  refine wp_region_quiet_below (by kernel_rfl) (by kernel_rfl) ?_
  repeat (quiet_step (first | (go_at_call 9; exact G9.out _ _) | (go_at_call 10; exact G10.out _ _) | (go_at_call 11; exact G11.out _ _) | (go_at_call 12; exact G12.out _ _) | (go_at_call 13; exact G13.out _ _) | (go_at_call 14; exact G14.out _ _) | (go_at_call 15; exact G15.out _ _)))
  refine wpQuiet_nil ?_
  intro _ hw'
  obtain ⟨⟨dq, osq⟩, hw''⟩ := hw'
  subst hw''
  go_wp2_with fail
  go_ret
  exact ⟨rfl, below_from hb (below_regrown W dq osq) hb.size⟩

theorem law_asks (a b c d e f g h : Int) (w : World) :
    Calls Try.prog 3 #[.agg #[.int .i64 a, .int .i64 b, .int .i64 c, .int .i64 d], .agg #[.int .i64 e, .int .i64 f, .int .i64 g, .int .i64 h]] w fun r w' => r = .returned (.bool true) ∧ Below w.heap.size w w' :=
  asks_at a b c d e f g h _ _ _ w (fun w => awake_any w) (fun w => formed_any a b c d w) (fun w => rformed_any a b c d w) (fun w => fits_any a b c d e f g h w) (fun w => rfits_any a b c d e f g h w) (fun w => cmp_any a b c d e f g h w) (fun w => rcmp_any a b c d e f g h w)

end Go.Proofs.Ytcndmhanabgamaa
