/-
  The law's trim.
-/
import Derived.Test.YtplcpjngpkghmaaKh
import Derived.Deep.QuietTactic
import Derived.BigQuiet
namespace Go.Proofs.Ytplcpjngpkghmaa
open Go.RowKit Go.Maps

/-- where the law's trim trims -/
def trK (n : Int) (m : Nat) : Nat := ((n % 18446744073709551616).toNat) % (m + 1)
theorem trK_le (n : Int) (m : Nat) : trK n m ≤ m := Nat.lt_succ_iff.1 (Nat.mod_lt _ (Nat.succ_pos _))
theorem trK_rem (n : Int) (m : Nat) : (n % 18446744073709551616).tmod ((m : Int) + 1) = (trK n m : Int) := by
  have h0 : 0 ≤ n % 18446744073709551616 := Int.emod_nonneg _ (by decide)
  obtain ⟨a, ha⟩ := Int.eq_ofNat_of_zero_le h0
  unfold trK
  rw [ha]
  rfl
set_option maxHeartbeats 4000000 in
set_option maxRecDepth 100000 in
theorem trim_ok (w : World) (lb rb : Nat) (v a3 : Value) (mb : Bool) (tr n N F M m1 K A : Int) (X : World → Prop) (nz : ¬ m1 = 0)
    (b1 : IntKind.u64.wrap n = N) (b2 : IntKind.i64.wrap (M - F) = m1 - 1) (b3 : IntKind.i64.wrap m1 = m1) (b4 : IntKind.u64.wrap m1 = m1) (b5 : N.tmod m1 = K) (b6 : wrap64 K = K) (b7 : wrap64 (F + K) = A)
    (hc : Hid (w.heap[rb]? = some (.cells #[v, .int .i64 F, .int .i64 M, a3, .bool mb, .int .i64 tr, .bool false] 40 (0, 0))))
    (H : Hid (∀ V, Below w.heap.size w V → Calls Try.prog 25 #[.pointer (some ⟨lb, 0, none⟩), .int .i64 A] V fun e w' => e = .returned (.int .i64 0) ∧ X w' ∧ w'.heap[rb]? = some (.cells #[v, .int .i64 F, .int .i64 M, a3, .bool mb, .int .i64 tr, .bool false] 40 (0, 0)))) :
    Calls Try.prog 39 #[.pointer (some ⟨lb, 0, none⟩), .pointer (some ⟨rb, 0, none⟩), .int .i64 n] w fun e w' => e = .returned (.bool true) ∧ ∃ w1, X w1 ∧ w1.heap[rb]? = some (.cells #[v, .int .i64 F, .int .i64 M, a3, .bool mb, .int .i64 tr, .bool false] 40 (0, 0)) ∧ w' = (w1.setCell ⟨rb, 1, none⟩ (.int .i64 A)).setCell ⟨rb, 3, none⟩ (.int .i64 M) := by
  obtain ⟨e0, e1, e2, e3, e4, e5, e6⟩ := k7 hc.out
  go_enter Try.func39, Try.ntmps39
  go_wp2_with fail
  go_quiet (fail)
  go_wp2_with (go_at_call 25; refine (H.out _ (below_drewN (Below.refl _ w) _)).mono ?_)
  first | rintro e w1 rfl x1 hc1 | rintro e w1 ⟨rfl, x1, hc1⟩
  have X1 : Hid (X w1 ∧ w1.heap[rb]? = some (.cells #[v, .int .i64 F, .int .i64 M, a3, .bool mb, .int .i64 tr, .bool false] 40 (0, 0))) := ⟨x1, hc1⟩
  obtain ⟨y0, y1, y2, y3, y4, y5, y6⟩ := k7 hc1
  have z1 := fz hc1 1
  have z3 := fz hc1 3
  clear x1 hc1 e0 e1 e2 e3 e4 e5 e6
  go_wp2_with fail
  go_ret
  exact ⟨rfl, w1, X1.out.1, X1.out.2, rfl⟩
set_option maxHeartbeats 4000000 in
set_option maxRecDepth 100000 in
theorem trim_lost (w : World) (lb rb : Nat) (v a3 : Value) (mb : Bool) (tr n N F M m1 K A : Int) (X : World → Prop) (nz : ¬ m1 = 0)
    (b1 : IntKind.u64.wrap n = N) (b2 : IntKind.i64.wrap (M - F) = m1 - 1) (b3 : IntKind.i64.wrap m1 = m1) (b4 : IntKind.u64.wrap m1 = m1) (b5 : N.tmod m1 = K) (b6 : wrap64 K = K) (b7 : wrap64 (F + K) = A)
    (hc : Hid (w.heap[rb]? = some (.cells #[v, .int .i64 F, .int .i64 M, a3, .bool mb, .int .i64 tr, .bool false] 40 (0, 0))))
    (H : Hid (∀ V, Below w.heap.size w V → Calls Try.prog 25 #[.pointer (some ⟨lb, 0, none⟩), .int .i64 A] V fun e w' => e = .returned (.int .i64 11) ∧ X w' ∧ w'.heap[rb]? = some (.cells #[v, .int .i64 F, .int .i64 M, a3, .bool mb, .int .i64 tr, .bool false] 40 (0, 0)))) :
    Calls Try.prog 39 #[.pointer (some ⟨lb, 0, none⟩), .pointer (some ⟨rb, 0, none⟩), .int .i64 n] w fun e w' => e = .returned (.bool true) ∧ ∃ w1, X w1 ∧ w1.heap[rb]? = some (.cells #[v, .int .i64 F, .int .i64 M, a3, .bool mb, .int .i64 tr, .bool false] 40 (0, 0)) ∧ w' = (w1.setCell ⟨rb, 6, none⟩ (.bool true)).setCell ⟨rb, 5, none⟩ (.int .i64 A) := by
  obtain ⟨e0, e1, e2, e3, e4, e5, e6⟩ := k7 hc.out
  go_enter Try.func39, Try.ntmps39
  go_wp2_with fail
  go_quiet (fail)
  go_wp2_with (go_at_call 25; refine (H.out _ (below_drewN (Below.refl _ w) _)).mono ?_)
  first | rintro e w1 rfl x1 hc1 | rintro e w1 ⟨rfl, x1, hc1⟩
  have X1 : Hid (X w1 ∧ w1.heap[rb]? = some (.cells #[v, .int .i64 F, .int .i64 M, a3, .bool mb, .int .i64 tr, .bool false] 40 (0, 0))) := ⟨x1, hc1⟩
  obtain ⟨y0, y1, y2, y3, y4, y5, y6⟩ := k7 hc1
  have z6 := fz hc1 6
  have z5 := fz hc1 5
  clear x1 hc1 e0 e1 e2 e3 e4 e5 e6
  go_wp2_with fail
  go_ret
  exact ⟨rfl, w1, X1.out.1, X1.out.2, rfl⟩
set_option maxHeartbeats 4000000 in
set_option maxRecDepth 100000 in
theorem trim_over (w : World) (lb rb : Nat) (v a3 : Value) (mb : Bool) (tr n N F M m1 K A : Int) (X : World → Prop) (nz : ¬ m1 = 0)
    (b1 : IntKind.u64.wrap n = N) (b2 : IntKind.i64.wrap (M - F) = m1 - 1) (b3 : IntKind.i64.wrap m1 = m1) (b4 : IntKind.u64.wrap m1 = m1) (b5 : N.tmod m1 = K) (b6 : wrap64 K = K) (b7 : wrap64 (F + K) = A)
    (hc : Hid (w.heap[rb]? = some (.cells #[v, .int .i64 F, .int .i64 M, a3, .bool mb, .int .i64 tr, .bool true] 40 (0, 0))))
    (H : Hid (∀ V, Below w.heap.size w V → Calls Try.prog 25 #[.pointer (some ⟨lb, 0, none⟩), .int .i64 A] V fun e w' => e = .returned (.int .i64 11) ∧ X w' ∧ w'.heap[rb]? = some (.cells #[v, .int .i64 F, .int .i64 M, a3, .bool mb, .int .i64 tr, .bool true] 40 (0, 0)))) :
    Calls Try.prog 39 #[.pointer (some ⟨lb, 0, none⟩), .pointer (some ⟨rb, 0, none⟩), .int .i64 n] w fun e w' => e = .returned (.bool true) ∧ ∃ w1, X w1 ∧ w1.heap[rb]? = some (.cells #[v, .int .i64 F, .int .i64 M, a3, .bool mb, .int .i64 tr, .bool true] 40 (0, 0)) ∧ w' = w1 := by
  obtain ⟨e0, e1, e2, e3, e4, e5, e6⟩ := k7 hc.out
  go_enter Try.func39, Try.ntmps39
  go_wp2_with fail
  go_quiet (fail)
  go_wp2_with (go_at_call 25; refine (H.out _ (below_drewN (Below.refl _ w) _)).mono ?_)
  first | rintro e w1 rfl x1 hc1 | rintro e w1 ⟨rfl, x1, hc1⟩
  have X1 : Hid (X w1 ∧ w1.heap[rb]? = some (.cells #[v, .int .i64 F, .int .i64 M, a3, .bool mb, .int .i64 tr, .bool true] 40 (0, 0))) := ⟨x1, hc1⟩
  obtain ⟨y0, y1, y2, y3, y4, y5, y6⟩ := k7 hc1
  clear x1 hc1 e0 e1 e2 e3 e4 e5 e6
  go_wp2_with fail
  go_ret
  exact ⟨rfl, w1, X1.out.1, X1.out.2, rfl⟩
end Go.Proofs.Ytplcpjngpkghmaa
