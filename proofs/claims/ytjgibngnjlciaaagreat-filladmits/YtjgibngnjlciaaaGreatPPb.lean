/-
  free, Free, New, Steps; spans; the lesser of two.
-/
import Derived.Test.YtjgibngnjlciaaaGreatPPa
namespace Go.Proofs.YtjgibngnjlciaaaGreat
open Go.RowKit Go.Maps

theorem results_cell1 {fn : Func} {p : Tmp} {ty : TypeId} (h : fn.results = #[.cell p ty]) (tmps : Array Value) (P : Program) (w : World) :
    (results fn tmps).run P w = ((asAddr (tmps.getD p undef)).run P w).andThen fun a w₁ => (loadVar ty a).run P w₁ := by
  simp only [results, h]
  simp [Sem.run_bind, Result.andThen]
def vA (v : V) : Value := .agg #[.int .i64 v.a, .int .i64 v.b, .int .i64 v.c, .int .i64 v.d]
set_option maxHeartbeats 400000 in
theorem free_zero (w : World) (pb : Nat) (a b c d : Int) (hpb : pb < w.heap.size) (c0 : w.cell? ⟨pb, 0, none⟩ = some (.int .i64 a)) (c1 : w.cell? ⟨pb, 1, none⟩ = some (.int .i64 b)) (c2 : w.cell? ⟨pb, 2, none⟩ = some (.int .i64 c)) (c3 : w.cell? ⟨pb, 3, none⟩ = some (.int .i64 d)) :
    Calls Tryz.prog 67 #[.pointer (some ⟨pb, 0, none⟩), .int .i64 0] w fun e w' => e = .returned (.agg #[.int .i64 a, .int .i64 b, .int .i64 c, .int .i64 d]) ∧ Below w.heap.size w w' := by
  have e1 : ¬ pb = w.heap.size := by omega
  go_enter Tryz.func67, Tryz.ntmps67
  go_wp2_with fail
  refine bodyPost_ret (v := .agg #[.int .i64 a, .int .i64 b, .int .i64 c, .int .i64 d]) (by rw [results_cell1 rfl]; go_simp) rfl ⟨rfl, ?_⟩
  go_grown
set_option maxHeartbeats 400000 in
theorem free_succ (w : World) (pb g n c k : Nat) (s : Stp) (hk : k < n) (hn : n ≤ 60000) (hpb : pb < w.heap.size) (hg : g < w.heap.size) (c4 : w.cell? ⟨pb, 4, none⟩ = some (.slice (some ⟨g, 0, none⟩) n c)) (c0 : w.cell? ⟨g, k * 5 + 1, none⟩ = some (.int .i64 s.fr.a)) (c1 : w.cell? ⟨g, k * 5 + 1 + 1, none⟩ = some (.int .i64 s.fr.b)) (c2 : w.cell? ⟨g, k * 5 + 1 + 2, none⟩ = some (.int .i64 s.fr.c)) (c3 : w.cell? ⟨g, k * 5 + 1 + 3, none⟩ = some (.int .i64 s.fr.d)) (x : Int) (hx : x = (k : Int) + 1) :
    Calls Tryz.prog 67 #[.pointer (some ⟨pb, 0, none⟩), .int .i64 x] w fun e w' => e = .returned (.agg #[.int .i64 s.fr.a, .int .i64 s.fr.b, .int .i64 s.fr.c, .int .i64 s.fr.d]) ∧ Below w.heap.size w w' := by
  have e1 : ¬ pb = w.heap.size := by omega
  have e2 : ¬ g = w.heap.size := by omega
  have hx0 : (x == 0) = false := by simp; omega
  have hx1 : IntKind.i64.wrap (x - 1) = (k : Int) := by rw [IntKind.wrap_i64]; omega
  have hk' : (k : Int) < (n : Int) := by omega
  have hk0 : (0 : Int) ≤ (k : Int) := by omega
  clear hx
  go_enter Tryz.func67, Tryz.ntmps67
  go_wp2_with fail
  refine bodyPost_ret (v := .agg #[.int .i64 s.fr.a, .int .i64 s.fr.b, .int .i64 s.fr.c, .int .i64 s.fr.d]) (by rw [results_cell1 rfl]; go_simp) rfl ⟨rfl, ?_⟩
  go_grown
theorem free_any {w : World} {pb : Nat} {S : PS} (h : Mem w pb S) (hn : S.l.length ≤ 60000) {k : Nat} (hk : k ≤ S.l.length) :
    Calls Tryz.prog 67 #[.pointer (some ⟨pb, 0, none⟩), .int .i64 k] w fun e w' => e = .returned (.agg #[.int .i64 (pv S.C S.l k).a, .int .i64 (pv S.C S.l k).b, .int .i64 (pv S.C S.l k).c, .int .i64 (pv S.C S.l k).d]) ∧ Below w.heap.size w w' := by
  have hc := h.cells
  have hpb := h.lt pb (.inl rfl)
  cases k with
  | zero =>
    rw [pv_zero]
    exact free_zero w pb _ _ _ _ hpb hc.1 hc.2.1 hc.2.2.1 hc.2.2.2.1
  | succ k =>
    have hs := List.getElem?_eq_getElem (show k < S.l.length by omega)
    rw [pv_succ hs]
    obtain ⟨g, c, e⟩ := h.rw.row (by omega)
    have hR := h.rw
    rw [e] at hR
    have h4 := hc.2.2.2.2.1
    rw [e] at h4
    have hcs := hR.cells hs
    exact free_succ w pb g S.l.length c k _ (by omega) hn hpb (hR.lt rfl) h4 hcs.2.1 hcs.2.2.1 hcs.2.2.2.1 hcs.2.2.2.2 _ (by simp)
set_option maxHeartbeats 400000 in
theorem Free_raw (w : World) (pb : Nat) (t : Int) (Q : Nat → Prop) (v : Nat → V) (H1 : Hid (∀ W, Below w.heap.size w W → Calls Tryz.prog 68 #[.pointer (some ⟨pb, 0, none⟩), .int .i64 t] W fun e w' => ∃ k : Nat, e = .returned (.int .i64 k) ∧ Hid (Q k) ∧ Below W.heap.size W w'))
    (H2 : Hid (∀ (k : Nat) W, Q k → Below w.heap.size w W → Calls Tryz.prog 67 #[.pointer (some ⟨pb, 0, none⟩), .int .i64 k] W fun e w' => e = .returned (.agg #[.int .i64 (v k).a, .int .i64 (v k).b, .int .i64 (v k).c, .int .i64 (v k).d]) ∧ Below W.heap.size W w')) :
    Calls Tryz.prog 47 #[.pointer (some ⟨pb, 0, none⟩), .int .i64 t] w fun e w' => (∃ k, e = .returned (.agg #[.int .i64 (v k).a, .int .i64 (v k).b, .int .i64 (v k).c, .int .i64 (v k).d]) ∧ Q k) ∧ Below w.heap.size w w' := by
  go_enter Tryz.func47, Tryz.ntmps47
  go_wp2_with (go_at_call 68; refine (H1.out _ (by go_grown)).mono ?_)
  rintro e w1 ⟨k, rfl, hq, b1⟩
  have z1 := at_below b1 (Nat.le_refl _) new0
  have y1 : Hid (Below w.heap.size w w1) := Below.trans (by go_grown) (b1.mono (by simp))
  clear H1
  go_wp2_with (go_at_call 67; refine (H2.out k _ hq.out y1.out).mono ?_)
  rintro e w2 ⟨rfl, b2⟩
  have z2 := at_below b2 (Nat.le_refl _) z1
  have y2 : Hid (Below w.heap.size w w2) := y1.out.trans (b2.mono y1.out.size)
  obtain ⟨r0, r1, r2, r3, rf0, rf1, rf2, rf3, rs, rn⟩ := cells4 z2
  go_wp2_with fail
  have r := at_set4 (v0 := .int .i64 (v k).a) (v1 := .int .i64 (v k).b) (v2 := .int .i64 (v k).c) (v3 := .int .i64 (v k).d) z2
  obtain ⟨c0, c1, c2, c3, -⟩ := cells4 r
  refine bodyPost_ret (v := .agg #[.int .i64 (v k).a, .int .i64 (v k).b, .int .i64 (v k).c, .int .i64 (v k).d]) (by rw [results_cell1 rfl]; simp [go_sem, c0, c1, c2, c3]) rfl ⟨⟨k, rfl, hq.out⟩, ?_⟩
  exact (((y2.out.setCell (Nat.le_refl _) _).setCell (Nat.le_refl _) _).setCell (Nat.le_refl _) _).setCell (Nat.le_refl _) _
theorem Free_any {w : World} {pb : Nat} {S : PS} (h : Mem w pb S) (hs : Srt S.l) (hn : S.l.length ≤ 60000) (t : Int) :
    Calls Tryz.prog 47 #[.pointer (some ⟨pb, 0, none⟩), .int .i64 t] w fun e w' => e = .returned (.agg #[.int .i64 (fa S.C S.l t).a, .int .i64 (fa S.C S.l t).b, .int .i64 (fa S.C S.l t).c, .int .i64 (fa S.C S.l t).d]) ∧ Below w.heap.size w w' := by
  refine (Free_raw w pb t (IsK S.l t) (pv S.C S.l) (fun W b => stretch_any (h.below b) hs hn t) (fun k W hk b => free_any (h.below b) hn hk.le)).mono ?_
  rintro e w' ⟨⟨k, rfl, hk⟩, b⟩
  exact ⟨by rw [fa_k hk], b⟩
set_option maxHeartbeats 400000 in
theorem Free_nil (w : World) (t : Int) : Calls Tryz.prog 47 #[.pointer none, .int .i64 t] w fun e w' => e = .returned (.agg #[.int .i64 0, .int .i64 0, .int .i64 0, .int .i64 0]) ∧ Below w.heap.size w w' := by
  go_enter Tryz.func47, Tryz.ntmps47
  go_wp2_with fail
  refine bodyPost_ret (v := .agg #[.int .i64 0, .int .i64 0, .int .i64 0, .int .i64 0]) (by rw [results_cell1 rfl]; go_simp) rfl ⟨rfl, ?_⟩
  go_grown
def spn (a b : Int) : Bool := decide (0 ≤ a) && (decide (a < b) && decide (b ≤ 1099511627776))
theorem isSpan_any (w : World) (a b : Int) : Calls Tryz.prog 73 #[.int .i64 a, .int .i64 b] w fun e w' => e = .returned (.bool (spn a b)) ∧ w' = w := by
  go_enter Tryz.func73, Tryz.ntmps73
  go_wp2_with fail
  all_goals (go_returns; refine ⟨congrArg (fun b => Ending.returned (Value.bool b)) ?_, rfl⟩)
  all_goals (unfold spn; rw [Bool.eq_iff_iff]; simp; omega)
set_option maxHeartbeats 1000000 in
theorem lesser_any (v u : V) (w : World) : Calls Tryz.prog 74 #[.agg #[.int .i64 v.a, .int .i64 v.b, .int .i64 v.c, .int .i64 v.d], .agg #[.int .i64 u.a, .int .i64 u.b, .int .i64 u.c, .int .i64 u.d]] w fun e w' => e = .returned (.agg #[.int .i64 (v.mn u).a, .int .i64 (v.mn u).b, .int .i64 (v.mn u).c, .int .i64 (v.mn u).d]) ∧ Below w.heap.size w w' := by
  obtain ⟨a, b, c, d⟩ := v
  obtain ⟨e, f, g, h⟩ := u
  have i0 := ix0 (.int .i64 e) (.int .i64 f) (.int .i64 g) (.int .i64 h)
  have i1 := ix1 (.int .i64 e) (.int .i64 f) (.int .i64 g) (.int .i64 h)
  have i2 := ix2 (.int .i64 e) (.int .i64 f) (.int .i64 g) (.int .i64 h)
  have i3 := ix3 (.int .i64 e) (.int .i64 f) (.int .i64 g) (.int .i64 h)
  go_enter Tryz.func74, Tryz.ntmps74
  go_wp2_with fail
  go_rounds 5
  all_goals (refine bodyPost_ret (by rw [results_cell1 rfl]; go_simp; rfl) rfl ⟨?_, by go_grown⟩)
  all_goals (clear i0 i1 i2 i3; unfold V.mn; simp only [Ending.returned.injEq, Value.agg.injEq, List.cons.injEq, Array.mk.injEq, Value.int.injEq, true_and, and_true]; omega)
end Go.Proofs.YtjgibngnjlciaaaGreat
