/-
  The law's step: Append and Get.
-/
import Derived.Test.YtplcpjngpkghmaaKj
namespace Go.Proofs.Ytplcpjngpkghmaa
open Go.RowKit Go.Maps

set_option maxHeartbeats 4000000 in
set_option maxRecDepth 100000 in
theorem step_app_same (w : World) (lb rb : Nat) (v a3 : Value) (mb : Bool) (tr n F M x y : Int) (q : Option Addr) (m c : Nat) (X Y : World → Prop) (hy : (y == 11) = false)
    (H : Hid (Calls Try.prog 20 #[.pointer (some ⟨lb, 0, none⟩), .slice q m c] (w.alloc (.cells #[.int .i64 1, .int .i64 n, .slice q m c] 33)) fun e w' => e = .returned (.tuple #[.int .i64 x, .int .i64 y]) ∧ X w' ∧ w'.heap[rb]? = some (.cells #[v, .int .i64 F, .int .i64 M, a3, .bool mb, .int .i64 tr, .bool false] 40 (0, 0)) ∧ w'.heap[w.heap.size]? = some (.cells #[.int .i64 1, .int .i64 n, .slice q m c] 33 (0, 0))))
    (G : Hid (∀ V, X V → Calls Try.prog 38 #[.pointer (some ⟨rb, 0, none⟩), .slice q m c] V fun e w' => e = .returned (.tuple #[.int .i64 x, .int .i64 y]) ∧ Y w')) :
    Calls Try.prog 18 #[.pointer (some ⟨lb, 0, none⟩), .pointer (some ⟨rb, 0, none⟩), .agg #[.int .i64 1, .int .i64 n, .slice q m c]] w fun e w' => e = .returned (.bool true) ∧ Y w' := by
  go_enter Try.func18, Try.ntmps18
  go_wp2_with (go_at_call 20; refine H.out.mono ?_)
  first | rintro e w1 rfl x1 hc1 hb1 | rintro e w1 ⟨rfl, x1, hc1, hb1⟩
  have X1 : Hid (X w1) := x1
  obtain ⟨y0, y1, y2, y3, y4, y5, y6⟩ := k7 hc1
  obtain ⟨z0, z1, z2⟩ := k3 hb1
  clear x1 hc1 hb1
  go_wp2_with (go_at_call 38; refine (G.out _ X1.out).mono ?_)
  first | rintro e w2 rfl yy | rintro e w2 ⟨rfl, yy⟩
  go_wp2_with fail
  go_ret
  exact ⟨rfl, yy⟩
set_option maxHeartbeats 4000000 in
set_option maxRecDepth 100000 in
theorem step_app_over (w : World) (lb rb : Nat) (v a3 : Value) (mb : Bool) (tr n F M x : Int) (q : Option Addr) (m c : Nat) (X Y : World → Prop)
    (H : Hid (Calls Try.prog 20 #[.pointer (some ⟨lb, 0, none⟩), .slice q m c] (w.alloc (.cells #[.int .i64 1, .int .i64 n, .slice q m c] 33)) fun e w' => e = .returned (.tuple #[.int .i64 x, .int .i64 11]) ∧ X w' ∧ w'.heap[rb]? = some (.cells #[v, .int .i64 F, .int .i64 M, a3, .bool mb, .int .i64 tr, .bool true] 40 (0, 0)) ∧ w'.heap[w.heap.size]? = some (.cells #[.int .i64 1, .int .i64 n, .slice q m c] 33 (0, 0))))
    (G : Hid (∀ V, X V → Calls Try.prog 38 #[.pointer (some ⟨rb, 0, none⟩), .slice q m c] V fun e w' => e = .returned (.tuple #[.int .i64 x, .int .i64 11]) ∧ Y w')) :
    Calls Try.prog 18 #[.pointer (some ⟨lb, 0, none⟩), .pointer (some ⟨rb, 0, none⟩), .agg #[.int .i64 1, .int .i64 n, .slice q m c]] w fun e w' => e = .returned (.bool true) ∧ Y w' := by
  go_enter Try.func18, Try.ntmps18
  go_wp2_with (go_at_call 20; refine H.out.mono ?_)
  first | rintro e w1 rfl x1 hc1 hb1 | rintro e w1 ⟨rfl, x1, hc1, hb1⟩
  have X1 : Hid (X w1) := x1
  obtain ⟨y0, y1, y2, y3, y4, y5, y6⟩ := k7 hc1
  obtain ⟨z0, z1, z2⟩ := k3 hb1
  clear x1 hc1 hb1
  go_wp2_with (go_at_call 38; refine (G.out _ X1.out).mono ?_)
  first | rintro e w2 rfl yy | rintro e w2 ⟨rfl, yy⟩
  go_wp2_with fail
  go_ret
  exact ⟨rfl, yy⟩
set_option maxHeartbeats 4000000 in
set_option maxRecDepth 100000 in
theorem step_app_lost (w : World) (lb rb : Nat) (v a3 : Value) (mb : Bool) (tr n F M M1 : Int) (q : Option Addr) (m c : Nat) (X : World → Prop) (Y : Value → World → Prop) (hm : (m : Int) ≤ 4080) (hM : IntKind.i64.wrap (M1 - 1) = M)
    (H : Hid (Calls Try.prog 20 #[.pointer (some ⟨lb, 0, none⟩), .slice q m c] (w.alloc (.cells #[.int .i64 1, .int .i64 n, .slice q m c] 33)) fun e w' => e = .returned (.tuple #[.int .i64 0, .int .i64 11]) ∧ X w' ∧ w'.heap[rb]? = some (.cells #[v, .int .i64 F, .int .i64 M, a3, .bool mb, .int .i64 tr, .bool false] 40 (0, 0)) ∧ w'.heap[w.heap.size]? = some (.cells #[.int .i64 1, .int .i64 n, .slice q m c] 33 (0, 0))))
    (G : Hid (∀ V, X V → Calls Try.prog 38 #[.pointer (some ⟨rb, 0, none⟩), .slice q m c] V fun e w' => ∃ u v', e = .returned u ∧ Y v' w' ∧ w'.heap[rb]? = some (.cells #[v', .int .i64 F, .int .i64 M1, a3, .bool mb, .int .i64 tr, .bool false] 40 (0, 0)))) :
    Calls Try.prog 18 #[.pointer (some ⟨lb, 0, none⟩), .pointer (some ⟨rb, 0, none⟩), .agg #[.int .i64 1, .int .i64 n, .slice q m c]] w fun e w' => e = .returned (.bool true) ∧ ∃ v' w2, Y v' w2 ∧ w2.heap[rb]? = some (.cells #[v', .int .i64 F, .int .i64 M1, a3, .bool mb, .int .i64 tr, .bool false] 40 (0, 0)) ∧ w' = ((w2.setCell ⟨rb, 2, none⟩ (.int .i64 M)).setCell ⟨rb, 4, none⟩ (.bool true)).setCell ⟨rb, 6, none⟩ (.bool true) := by
  go_enter Try.func18, Try.ntmps18
  go_wp2_with (go_at_call 20; refine H.out.mono ?_)
  first | rintro e w1 rfl x1 hc1 hb1 | rintro e w1 ⟨rfl, x1, hc1, hb1⟩
  have X1 : Hid (X w1) := x1
  obtain ⟨y0, y1, y2, y3, y4, y5, y6⟩ := k7 hc1
  obtain ⟨z0, z1, z2⟩ := k3 hb1
  clear x1 hc1 hb1
  go_wp2_with (go_at_call 38; refine (G.out _ X1.out).mono ?_)
  first | rintro e w2 u v' rfl yy hc2 | rintro e w2 ⟨u, v', rfl, yy, hc2⟩
  have Y2 : Hid (Y v' w2 ∧ w2.heap[rb]? = some (.cells #[v', .int .i64 F, .int .i64 M1, a3, .bool mb, .int .i64 tr, .bool false] 40 (0, 0))) := ⟨yy, hc2⟩
  obtain ⟨d0, d1, d2, d3, d4, d5, d6⟩ := k7 hc2
  have f2 := fz hc2 2
  have f4 := fz hc2 4
  have f6 := fz hc2 6
  clear yy hc2 y0 y1 y2 y3 y4 y5 y6
  go_wp2_with fail
  go_ret
  exact ⟨rfl, v', w2, Y2.out.1, Y2.out.2, rfl⟩
set_option maxHeartbeats 4000000 in
set_option maxRecDepth 100000 in
theorem step_get (w : World) (lb rb : Nat) (n y : Int) (q : Option Addr) (m c : Nat) (X : Option Addr → Nat → Nat → World → Prop) (Y : Option Addr → Nat → Nat → Option Addr → Nat → Nat → World → Prop) (Z : World → Prop)
    (H : Hid (Calls Try.prog 23 #[.pointer (some ⟨lb, 0, none⟩), .int .i64 n] (w.alloc (.cells #[.int .i64 4, .int .i64 n, .slice q m c] 33)) fun e w' => ∃ q1 m1 c1, e = .returned (.tuple #[.slice q1 m1 c1, .int .i64 y]) ∧ X q1 m1 c1 w' ∧ w'.heap[w.heap.size]? = some (.cells #[.int .i64 4, .int .i64 n, .slice q m c] 33 (0, 0))))
    (G : Hid (∀ V q1 m1 c1, X q1 m1 c1 V → Calls Try.prog 40 #[.pointer (some ⟨rb, 0, none⟩), .int .i64 n] V fun e w' => ∃ q2 m2 c2, e = .returned (.tuple #[.slice q2 m2 c2, .int .i64 y]) ∧ Y q1 m1 c1 q2 m2 c2 w'))
    (I : Hid (∀ V q1 m1 c1 q2 m2 c2, Y q1 m1 c1 q2 m2 c2 V → Calls Try.prog 24 #[.slice q1 m1 c1, .slice q2 m2 c2] V fun e w' => e = .returned (.bool true) ∧ Z w')) :
    Calls Try.prog 18 #[.pointer (some ⟨lb, 0, none⟩), .pointer (some ⟨rb, 0, none⟩), .agg #[.int .i64 4, .int .i64 n, .slice q m c]] w fun e w' => e = .returned (.bool true) ∧ Z w' := by
  go_enter Try.func18, Try.ntmps18
  go_wp2_with (go_at_call 23; refine H.out.mono ?_)
  first | rintro e w1 q1 m1 c1 rfl x1 hb1 | rintro e w1 ⟨q1, m1, c1, rfl, x1, hb1⟩
  have X1 : Hid (X q1 m1 c1 w1) := x1
  obtain ⟨z0, z1, z2⟩ := k3 hb1
  clear x1 hb1
  go_wp2_with (go_at_call 40; refine (G.out _ _ _ _ X1.out).mono ?_)
  first | rintro e w2 q2 m2 c2 rfl yy | rintro e w2 ⟨q2, m2, c2, rfl, yy⟩
  have Y2 : Hid (Y q1 m1 c1 q2 m2 c2 w2) := yy
  clear yy
  go_wp2_with (go_at_call 24; refine (I.out _ _ _ _ _ _ _ Y2.out).mono ?_)
  first | rintro e w3 rfl zz | rintro e w3 ⟨rfl, zz⟩
  go_wp2_with fail
  go_ret
  exact ⟨rfl, zz⟩
end Go.Proofs.Ytplcpjngpkghmaa
