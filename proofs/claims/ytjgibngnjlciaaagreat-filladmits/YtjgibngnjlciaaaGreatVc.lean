/-
  Vectors: one taken away from the other.
-/
import Derived.Test.YtjgibngnjlciaaaGreatVb
namespace Go.Proofs.YtjgibngnjlciaaaGreat
open Go.RowKit

set_option maxHeartbeats 1000000 in
theorem sub_bad (a b c d e f g h : Int) (w : World) (hf : allOk [⟨a, b, c, d⟩, ⟨e, f, g, h⟩] = false) :
    Calls Tryz.prog 26 #[.agg #[.int .i64 a, .int .i64 b, .int .i64 c, .int .i64 d], .agg #[.int .i64 e, .int .i64 f, .int .i64 g, .int .i64 h]] w fun r w' => r = ansV (V.nil, 4) ∧ Below w.heap.size w w' := by
  have HS : Hid (∀ (p c' : Nat) (w : World), VRow w p 0 [⟨a, b, c, d⟩, ⟨e, f, g, h⟩] → Calls Tryz.prog 53 #[.slice (some ⟨p, 0, none⟩) 2 c'] w fun r w' => r = .returned (.bool false) ∧ Below w.heap.size w w') := fun p c' w hr => by have := allFormed_any [⟨a, b, c, d⟩, ⟨e, f, g, h⟩] p 0 c' w (by simp) hr; rwa [hf] at this
  clear hf
  go_enter Tryz.func26, Tryz.ntmps26
  go_wp2_with (go_at_call 53; refine (HS.out _ _ _ (row2 new3)).mono ?_; rintro e w1 ⟨rfl, b1⟩; have z1 := at_below b1 (Nat.le_refl _) (at_alloc new2); obtain ⟨r0, r1, r2, r3, rf0, rf1, rf2, rf3, rs, rn⟩ := cells4 z1; have y1 : Hid (Below w.heap.size w w1) := below_from (by go_grown) b1 (by simp; omega))
  have r := at_set4 (v0 := .int .i64 0) (v1 := .int .i64 0) (v2 := .int .i64 0) (v3 := .int .i64 0) z1
  obtain ⟨c0, c1, c2, c3, -⟩ := cells4 r
  refine bodyPost_ret (by simp [results, Tryz.results26, go_sem, c0, c1, c2, c3]; rfl) rfl ?_
  exact ⟨rfl, (((y1.out.setCell (by simp; omega) _).setCell (by simp; omega) _).setCell (by simp; omega) _).setCell (by simp; omega) _⟩
set_option maxHeartbeats 2000000 in
theorem sub_at (a b c d e f g h t0 t1 t2 t3 : Int) (w : World) (hf : allOk [⟨a, b, c, d⟩, ⟨e, f, g, h⟩] = true)
    (e0 : IntKind.i64.wrap (a - e) = t0) (e1 : IntKind.i64.wrap (b - f) = t1) (e2 : IntKind.i64.wrap (c - g) = t2) (e3 : IntKind.i64.wrap (d - h) = t3) :
    Calls Tryz.prog 26 #[.agg #[.int .i64 a, .int .i64 b, .int .i64 c, .int .i64 d], .agg #[.int .i64 e, .int .i64 f, .int .i64 g, .int .i64 h]] w fun r w' => r = ansV (if ft e f g h a b c d then (⟨t0, t1, t2, t3⟩, 0) else (V.nil, 2)) ∧ Below w.heap.size w w' := by
  have HS : Hid (∀ (p c' : Nat) (w : World), VRow w p 0 [⟨a, b, c, d⟩, ⟨e, f, g, h⟩] → Calls Tryz.prog 53 #[.slice (some ⟨p, 0, none⟩) 2 c'] w fun r w' => r = .returned (.bool true) ∧ Below w.heap.size w w') := fun p c' w hr => by have := allFormed_any [⟨a, b, c, d⟩, ⟨e, f, g, h⟩] p 0 c' w (by simp) hr; rwa [hf] at this
  have HT : Hid (∀ (w : World), Calls Tryz.prog 52 #[.agg #[.int .i64 e, .int .i64 f, .int .i64 g, .int .i64 h], .agg #[.int .i64 a, .int .i64 b, .int .i64 c, .int .i64 d]] w fun r w' => r = .returned (.bool (ft e f g h a b c d)) ∧ Below w.heap.size w w') := fun w => fits_any e f g h a b c d w
  generalize ft e f g h a b c d = bt at *
  clear hf
  have i0 := ix0 (.int .i64 e) (.int .i64 f) (.int .i64 g) (.int .i64 h)
  have i1 := ix1 (.int .i64 e) (.int .i64 f) (.int .i64 g) (.int .i64 h)
  have i2 := ix2 (.int .i64 e) (.int .i64 f) (.int .i64 g) (.int .i64 h)
  have i3 := ix3 (.int .i64 e) (.int .i64 f) (.int .i64 g) (.int .i64 h)
  go_enter Tryz.func26, Tryz.ntmps26
  go_wp2_with (go_at_call 53; refine (HS.out _ _ _ (row2 new3)).mono ?_)
  rintro _ w1 rfl b1
  have z1 := at_below b1 (by simp) (at_alloc new2)
  have z2 := at_below b1 (by simp) (at_alloc (at_alloc new1))
  have z3 := at_below b1 (by simp) (at_alloc (at_alloc (at_alloc new0)))
  have y1 : Hid (Below w.heap.size w w1) := Below.trans (by go_grown) (b1.mono (by omega))
  clear b1 HS
  obtain ⟨k0, k1, k2, k3, kf0, kf1, kf2, kf3, ks, kn⟩ := cells4 z2
  obtain ⟨l0, l1, l2, l3, lf0, lf1, lf2, lf3, ls, ln⟩ := cells4 z3
  go_wp2_with (go_at_call 52; refine (HT.out _).mono ?_)
  rintro e w2 ⟨rfl, b2⟩
  have x1 := at_below b2 (Nat.le_refl _) z1
  have x2 := at_below b2 (Nat.le_refl _) z2
  have x3 := at_below b2 (Nat.le_refl _) z3
  have y2 : Hid (Below w.heap.size w w2) := below_from y1.out b2 y1.out.size
  clear k0 k1 k2 k3 kf0 kf1 kf2 kf3 ks kn l0 l1 l2 l3 lf0 lf1 lf2 lf3 ls ln b2 y1 HT z1 z2 z3
  obtain ⟨k0, k1, k2, k3, kf0, kf1, kf2, kf3, ks, kn⟩ := cells4 x2
  obtain ⟨l0, l1, l2, l3, lf0, lf1, lf2, lf3, ls, ln⟩ := cells4 x3
  obtain ⟨r0, r1, r2, r3, rf0, rf1, rf2, rf3, rs, rn⟩ := cells4 x1
  cases bt
  · go_wp2_with fail
    have r := at_set4 (v0 := .int .i64 0) (v1 := .int .i64 0) (v2 := .int .i64 0) (v3 := .int .i64 0) x1
    obtain ⟨c0, c1, c2, c3, -⟩ := cells4 r
    refine bodyPost_ret (by simp [results, Tryz.results26, go_sem, c0, c1, c2, c3]; rfl) rfl ?_
    exact ⟨rfl, (((y2.out.setCell (by simp; omega) _).setCell (by simp; omega) _).setCell (by simp; omega) _).setCell (by simp; omega) _⟩
  · go_wp2_with fail
    go_rounds 5
    have x4 := at_other (k := 3) (v := .int .i64 t3) (at_other (k := 2) (v := .int .i64 t2) (at_other (k := 1) (v := .int .i64 t1) (at_other (k := 0) (v := .int .i64 t0) x1 (show w.heap.size + 1 + 1 ≠ w.heap.size by omega)) (show w.heap.size + 1 + 1 ≠ w.heap.size by omega)) (show w.heap.size + 1 + 1 ≠ w.heap.size by omega)) (show w.heap.size + 1 + 1 ≠ w.heap.size by omega)
    have r := at_set4 (v0 := .int .i64 t0) (v1 := .int .i64 t1) (v2 := .int .i64 t2) (v3 := .int .i64 t3) x4
    obtain ⟨c0, c1, c2, c3, -⟩ := cells4 r
    refine bodyPost_ret (by simp [results, Tryz.results26, go_sem, c0, c1, c2, c3]; rfl) rfl ?_
    refine ⟨rfl, (((Below.setCell ?_ (by simp; omega) _).setCell (by simp; omega) _).setCell (by simp; omega) _).setCell (by simp; omega) _⟩
    exact (((y2.out.setCell (by simp) _).setCell (by simp) _).setCell (by simp) _).setCell (by simp) _
theorem sub_any (a b c d e f g h : Int) (w : World) :
    Calls Tryz.prog 26 #[.agg #[.int .i64 a, .int .i64 b, .int .i64 c, .int .i64 d], .agg #[.int .i64 e, .int .i64 f, .int .i64 g, .int .i64 h]] w fun r w' => r = ansV (subR ⟨a, b, c, d⟩ ⟨e, f, g, h⟩) ∧ Below w.heap.size w w' := by
  unfold subR
  by_cases h1 : (V.ok ⟨a, b, c, d⟩ && V.ok ⟨e, f, g, h⟩) = true
  · rw [if_pos h1]
    have h1' := Bool.and_eq_true_iff.1 h1
    have o1 := okV (v := ⟨a, b, c, d⟩) h1'.1
    have o2 := okV (v := ⟨e, f, g, h⟩) h1'.2
    simp only [] at o1 o2
    have := sub_at a b c d e f g h _ _ _ _ w (by simp only [allOk, List.all_cons, List.all_nil, Bool.and_true]; exact h1) (wrap_ok (by omega) (by omega)) (wrap_ok (by omega) (by omega)) (wrap_ok (by omega) (by omega)) (wrap_ok (by omega) (by omega))
    have e1 : ft e f g h a b c d = (V.sub ⟨a, b, c, d⟩ ⟨e, f, g, h⟩).ok := by
      unfold ft V.sub V.ok fm okI
      rw [Bool.eq_iff_iff]
      simp
      omega
    rw [e1] at this
    exact this
  · rw [if_neg h1]
    refine sub_bad a b c d e f g h w ?_
    simp only [allOk, List.all_cons, List.all_nil, Bool.and_true]
    exact Bool.eq_false_iff.2 h1

end Go.Proofs.YtjgibngnjlciaaaGreat
