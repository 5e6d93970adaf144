/-
  earlier: of two waiters which comes first.
-/
import Derived.Test.YthlbeofonbbbdaaQb
namespace Go.Proofs.Ythlbeofonbbbdaa
open Go.RowKit Go.Maps

theorem at_drewN {w : World} {n k : Nat} {x : Obj} (h : w.heap[n]? = some x) : (w.drewN k).heap[n]? = some x := h
theorem new1 {w : World} {o o' : Obj} : ((w.alloc o).alloc o').heap[w.heap.size + 1]? = some o' := by
  have := new0 (w := w.alloc o) (o := o')
  rwa [World.size_alloc] at this
theorem first0 {w : World} {A B : Obj} : ((w.alloc A).alloc B).heap[w.heap.size]? = some A := at_alloc new0
theorem Gw.alloc {w w1 : World} (h : Gw w w1) (o : Obj) : Gw w (w1.alloc o) := ⟨h.1.alloc h.1.size _, h.2⟩
theorem Gw.drewN {w w1 : World} (h : Gw w w1) (n : Nat) : Gw w (w1.drewN n) := ⟨below_drewN h.1 n, Nat.le_trans h.2 (Nat.le_add_right _ _)⟩
def ky (a : J) : K := ⟨-a.pr, a.job, 0⟩
theorem neg_wrap (p : Int) (h0 : 0 ≤ p) (h1 : p ≤ 100) : IntKind.i64.wrap (-p) = -p := by
  rw [IntKind.wrap_i64]
  omega
theorem ok_pr {a : J} (h : a.ok = true) : 1 ≤ a.job ∧ a.job ≤ 100 ∧ 0 ≤ a.pr ∧ a.pr ≤ 100 := by
  unfold J.ok at h
  simp only [Bool.and_eq_true, decide_eq_true_eq] at h
  exact ⟨h.1.1.1, h.1.1.2, h.1.2, h.2⟩
theorem ky_ok {a : J} (h : a.ok = true) : (ky a).ok := by
  obtain ⟨h1, h2, h3, h4⟩ := ok_pr h
  exact ⟨⟨by show _ ≤ -a.pr; omega, by show -a.pr < _; omega⟩, ⟨by show _ ≤ a.job; omega, by show a.job < _; omega⟩, ⟨by show (_ : Int) ≤ 0; omega, by show (0 : Int) < _; omega⟩⟩
theorem key_any (w : World) (a : Hd) (h : w.heap[a.b]? = some (.cells (hC a) 76 (0, 0))) (ho : a.j.ok = true) : Calls Try.prog 41 #[.pointer (some ⟨a.b, 0, none⟩)] w fun e w' => e = .returned (.agg #[.int .i64 (ky a.j).a, .int .i64 (ky a.j).b, .int .i64 (ky a.j).c]) ∧ Gw w w' := by
  obtain ⟨h1, h2, h3, h4⟩ := ok_pr ho
  exact key_raw w a.b a.j.job a.j.pr _ _ _ h (neg_wrap _ h3 h4)
set_option maxHeartbeats 1000000 in
set_option maxRecDepth 100000 in
theorem earlier_raw (w : World) (x y : Nat) (kf : Nat → K) (P : Nat → Prop) (hx : P x) (hy : P y) (H : Hid (∀ z w1, P z → Gw w w1 → Calls Try.prog 41 #[.pointer (some ⟨z, 0, none⟩)] w1 fun e w' => e = .returned (.agg #[.int .i64 (kf z).a, .int .i64 (kf z).b, .int .i64 (kf z).c]) ∧ Gw w1 w')) :
    Calls Try.prog 47 #[.pointer (some ⟨x, 0, none⟩), .pointer (some ⟨y, 0, none⟩)] w fun e w' => e = .returned (.int .i64 (cm3 (kf x) (kf y))) ∧ Gw w w' := by
  have HC : Hid (∀ (p q : Nat) (w : World), w.cell? ⟨p, 0, none⟩ = some (.int .i64 (kf x).a) → w.cell? ⟨p, 1, none⟩ = some (.int .i64 (kf x).b) → w.cell? ⟨p, 2, none⟩ = some (.int .i64 (kf x).c) → w.cell? ⟨q, 0, none⟩ = some (.int .i64 (kf y).a) → w.cell? ⟨q, 1, none⟩ = some (.int .i64 (kf y).b) → w.cell? ⟨q, 2, none⟩ = some (.int .i64 (kf y).c) → Calls Try.prog 59 #[.slice (some ⟨p, 0, none⟩) 3 3, .slice (some ⟨q, 0, none⟩) 3 3] w fun e w' => e = .returned (.int .i64 (cm3 (kf x) (kf y))) ∧ w' = w) := fun p q w h1 h2 h3 h4 h5 h6 => scmp_any (kf x) (kf y) p q w h1 h2 h3 h4 h5 h6
  generalize cm3 (kf x) (kf y) = r at *
  have HH : Hid (∀ z w1, P z → Gw w w1 → Calls Try.prog 41 #[.pointer (some ⟨z, 0, none⟩)] w1 fun e w' => e = .returned (.agg #[.int .i64 (kf z).a, .int .i64 (kf z).b, .int .i64 (kf z).c]) ∧ Gw w w') := fun z w1 hz h1 => (H.out z w1 hz h1).mono fun e w' ⟨he, h2⟩ => ⟨he, h1.trans h2⟩
  have g0 : Gw w w := Gw.refl w
  clear H
  go_enter Try.func47, Try.ntmps47
  go_wp2_with (go_at_call 41; refine (HH.out _ _ (by assumption) (by assumption)).mono ?_; rintro e w1 ⟨rfl, b1⟩)
  go_quiet ((go_at_call 59; exact Calls.quiet_of_same (HC.out _ _ _ (Lib.cell_of_heap (at_drewN first0) 0) (Lib.cell_of_heap (at_drewN first0) 1) (Lib.cell_of_heap (at_drewN first0) 2) (Lib.cell_of_heap (at_drewN new1) 0) (Lib.cell_of_heap (at_drewN new1) 1) (Lib.cell_of_heap (at_drewN new1) 2))))
  go_wp2_with fail
  go_ret
  exact ⟨rfl, ((b1.alloc _).alloc _).drewN _⟩
end Go.Proofs.Ythlbeofonbbbdaa
