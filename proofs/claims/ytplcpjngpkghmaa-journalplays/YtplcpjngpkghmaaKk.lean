/-
  The law's step: Sync, Trim, and no call.
-/
import Derived.Test.YtplcpjngpkghmaaKj
namespace Go.Proofs.Ytplcpjngpkghmaa
open Go.RowKit Go.Maps

set_option maxHeartbeats 4000000 in
set_option maxRecDepth 100000 in
theorem step_sync_ok (w : World) (lb rb : Nat) (v a3 : Value) (mb : Bool) (tr n F M : Int) (q : Option Addr) (m c : Nat) (X : World → Prop)
    (H : Hid (∀ V, Below w.heap.size w V → Calls Try.prog 26 #[.pointer (some ⟨lb, 0, none⟩)] V fun e w' => e = .returned (.int .i64 0) ∧ X w' ∧ w'.heap[rb]? = some (.cells #[v, .int .i64 F, .int .i64 M, a3, .bool mb, .int .i64 tr, .bool false] 40 (0, 0)))) :
    Calls Try.prog 18 #[.pointer (some ⟨lb, 0, none⟩), .pointer (some ⟨rb, 0, none⟩), .agg #[.int .i64 2, .int .i64 n, .slice q m c]] w fun e w' => e = .returned (.bool true) ∧ ∃ w1, X w1 ∧ w1.heap[rb]? = some (.cells #[v, .int .i64 F, .int .i64 M, a3, .bool mb, .int .i64 tr, .bool false] 40 (0, 0)) ∧ w' = w1.setCell ⟨rb, 3, none⟩ (.int .i64 M) := by
  go_enter Try.func18, Try.ntmps18
  go_wp2_with (go_at_call 26; refine (H.out _ ((Below.refl _ w).alloc (Nat.le_refl _) _)).mono ?_)
  first | rintro e w1 rfl x1 hc1 | rintro e w1 ⟨rfl, x1, hc1⟩
  have X1 : Hid (X w1 ∧ w1.heap[rb]? = some (.cells #[v, .int .i64 F, .int .i64 M, a3, .bool mb, .int .i64 tr, .bool false] 40 (0, 0))) := ⟨x1, hc1⟩
  obtain ⟨y0, y1, y2, y3, y4, y5, y6⟩ := k7 hc1
  have z3 := fz hc1 3
  clear x1 hc1
  go_wp2_with fail
  go_ret
  exact ⟨rfl, w1, X1.out.1, X1.out.2, rfl⟩
set_option maxHeartbeats 4000000 in
set_option maxRecDepth 100000 in
theorem step_sync_lost (w : World) (lb rb : Nat) (v a3 : Value) (mb : Bool) (tr n F M : Int) (q : Option Addr) (m c : Nat) (X : World → Prop)
    (H : Hid (∀ V, Below w.heap.size w V → Calls Try.prog 26 #[.pointer (some ⟨lb, 0, none⟩)] V fun e w' => e = .returned (.int .i64 11) ∧ X w' ∧ w'.heap[rb]? = some (.cells #[v, .int .i64 F, .int .i64 M, a3, .bool mb, .int .i64 tr, .bool false] 40 (0, 0)))) :
    Calls Try.prog 18 #[.pointer (some ⟨lb, 0, none⟩), .pointer (some ⟨rb, 0, none⟩), .agg #[.int .i64 2, .int .i64 n, .slice q m c]] w fun e w' => e = .returned (.bool true) ∧ ∃ w1, X w1 ∧ w1.heap[rb]? = some (.cells #[v, .int .i64 F, .int .i64 M, a3, .bool mb, .int .i64 tr, .bool false] 40 (0, 0)) ∧ w' = w1.setCell ⟨rb, 6, none⟩ (.bool true) := by
  go_enter Try.func18, Try.ntmps18
  go_wp2_with (go_at_call 26; refine (H.out _ ((Below.refl _ w).alloc (Nat.le_refl _) _)).mono ?_)
  first | rintro e w1 rfl x1 hc1 | rintro e w1 ⟨rfl, x1, hc1⟩
  have X1 : Hid (X w1 ∧ w1.heap[rb]? = some (.cells #[v, .int .i64 F, .int .i64 M, a3, .bool mb, .int .i64 tr, .bool false] 40 (0, 0))) := ⟨x1, hc1⟩
  obtain ⟨y0, y1, y2, y3, y4, y5, y6⟩ := k7 hc1
  have z6 := fz hc1 6
  clear x1 hc1
  go_wp2_with fail
  go_ret
  exact ⟨rfl, w1, X1.out.1, X1.out.2, rfl⟩
set_option maxHeartbeats 4000000 in
set_option maxRecDepth 100000 in
theorem step_sync_over (w : World) (lb rb : Nat) (v a3 : Value) (mb : Bool) (tr n F M : Int) (q : Option Addr) (m c : Nat) (X : World → Prop)
    (H : Hid (∀ V, Below w.heap.size w V → Calls Try.prog 26 #[.pointer (some ⟨lb, 0, none⟩)] V fun e w' => e = .returned (.int .i64 11) ∧ X w' ∧ w'.heap[rb]? = some (.cells #[v, .int .i64 F, .int .i64 M, a3, .bool mb, .int .i64 tr, .bool true] 40 (0, 0)))) :
    Calls Try.prog 18 #[.pointer (some ⟨lb, 0, none⟩), .pointer (some ⟨rb, 0, none⟩), .agg #[.int .i64 2, .int .i64 n, .slice q m c]] w fun e w' => e = .returned (.bool true) ∧ ∃ w1, X w1 ∧ w1.heap[rb]? = some (.cells #[v, .int .i64 F, .int .i64 M, a3, .bool mb, .int .i64 tr, .bool true] 40 (0, 0)) ∧ w' = w1 := by
  go_enter Try.func18, Try.ntmps18
  go_wp2_with (go_at_call 26; refine (H.out _ ((Below.refl _ w).alloc (Nat.le_refl _) _)).mono ?_)
  first | rintro e w1 rfl x1 hc1 | rintro e w1 ⟨rfl, x1, hc1⟩
  have X1 : Hid (X w1 ∧ w1.heap[rb]? = some (.cells #[v, .int .i64 F, .int .i64 M, a3, .bool mb, .int .i64 tr, .bool true] 40 (0, 0))) := ⟨x1, hc1⟩
  obtain ⟨y0, y1, y2, y3, y4, y5, y6⟩ := k7 hc1
  clear x1 hc1
  go_wp2_with fail
  go_ret
  exact ⟨rfl, w1, X1.out.1, X1.out.2, rfl⟩
set_option maxHeartbeats 4000000 in
set_option maxRecDepth 100000 in
theorem step_trim (w : World) (lb rb : Nat) (n : Int) (q : Option Addr) (m c : Nat) (X : World → Prop)
    (H : Hid (∀ V, Below w.heap.size w V → Calls Try.prog 39 #[.pointer (some ⟨lb, 0, none⟩), .pointer (some ⟨rb, 0, none⟩), .int .i64 n] V fun e w' => e = .returned (.bool true) ∧ X w')) :
    Calls Try.prog 18 #[.pointer (some ⟨lb, 0, none⟩), .pointer (some ⟨rb, 0, none⟩), .agg #[.int .i64 3, .int .i64 n, .slice q m c]] w fun e w' => e = .returned (.bool true) ∧ X w' := by
  go_enter Try.func18, Try.ntmps18
  go_wp2_with (go_at_call 39; refine (H.out _ ((Below.refl _ w).alloc (Nat.le_refl _) _)).mono ?_)
  first | rintro e w1 rfl x1 | rintro e w1 ⟨rfl, x1⟩
  go_wp2_with fail
  go_ret
  exact ⟨rfl, x1⟩
set_option maxHeartbeats 4000000 in
set_option maxRecDepth 100000 in
theorem step_none (w : World) (lb rb : Nat) (k n : Int) (q : Option Addr) (m c : Nat) (k1 : (k == 1) = false) (k2 : (k == 2) = false) (k3 : (k == 3) = false) (k4 : (k == 4) = false) :
    Calls Try.prog 18 #[.pointer (some ⟨lb, 0, none⟩), .pointer (some ⟨rb, 0, none⟩), .agg #[.int .i64 k, .int .i64 n, .slice q m c]] w fun e w' => e = .returned (.bool true) ∧ Below w.heap.size w w' := by
  have B : Hid (Below w.heap.size w (w.alloc (.cells #[.int .i64 k, .int .i64 n, .slice q m c] 33))) := (Below.refl _ w).alloc (Nat.le_refl _) _
  go_enter Try.func18, Try.ntmps18
  go_wp2_with fail
  go_ret
  exact ⟨rfl, B.out⟩
end Go.Proofs.Ytplcpjngpkghmaa
