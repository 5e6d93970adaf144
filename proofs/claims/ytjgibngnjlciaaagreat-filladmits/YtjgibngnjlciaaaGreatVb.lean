/-
  Vectors: one taken away from the other, by the document.
-/
import Derived.Test.YtjgibngnjlciaaaGreatVa
namespace Go.Proofs.YtjgibngnjlciaaaGreat
open Go.RowKit

def V.sub (v u : V) : V := ⟨v.a - u.a, v.b - u.b, v.c - u.c, v.d - u.d⟩
def subR (v u : V) : V × Nat := if v.ok && u.ok then (if (v.sub u).ok then (v.sub u, 0) else (V.nil, 2)) else (V.nil, 4)
/-- the reference refuses -/
theorem rsub_bad1 (a b c d e f g h : Int) (w : World) (hf : fm a b c d = false) :
    Calls Tryz.prog 36 #[.agg #[.int .i64 a, .int .i64 b, .int .i64 c, .int .i64 d], .agg #[.int .i64 e, .int .i64 f, .int .i64 g, .int .i64 h]] w fun r w' => r = ansV (V.nil, 4) ∧ Below w.heap.size w w' := by
  have HC : Hid (∀ (w : World), Calls Tryz.prog 57 #[.agg #[.int .i64 a, .int .i64 b, .int .i64 c, .int .i64 d]] w fun e w' => e = .returned (.bool false) ∧ Below w.heap.size w w') := fun w => by have := rformed_any a b c d w; rwa [hf] at this
  clear hf
  go_enter Tryz.func36, Tryz.ntmps36
  go_wp2_with (go_at_call 57; refine (HC.out _).mono ?_; rintro e w1 ⟨rfl, b1⟩; have z1 := at_below b1 (Nat.le_refl _) new2; obtain ⟨r0, r1, r2, r3, rf0, rf1, rf2, rf3, rs, rn⟩ := cells4 z1; have y1 : Hid (Below w.heap.size w w1) := below_from (by go_grown) b1 (by simp; omega))
  have r := at_set4 (v0 := .int .i64 0) (v1 := .int .i64 0) (v2 := .int .i64 0) (v3 := .int .i64 0) z1
  obtain ⟨c0, c1, c2, c3, -⟩ := cells4 r
  refine bodyPost_ret (by simp [results, Tryz.results36, go_sem, c0, c1, c2, c3]; rfl) rfl ?_
  exact ⟨rfl, (((y1.out.setCell (by simp; omega) _).setCell (by simp; omega) _).setCell (by simp; omega) _).setCell (by simp; omega) _⟩
theorem rsub_bad2 (a b c d e f g h : Int) (w : World) (ht : fm a b c d = true) (hf : fm e f g h = false) :
    Calls Tryz.prog 36 #[.agg #[.int .i64 a, .int .i64 b, .int .i64 c, .int .i64 d], .agg #[.int .i64 e, .int .i64 f, .int .i64 g, .int .i64 h]] w fun r w' => r = ansV (V.nil, 4) ∧ Below w.heap.size w w' := by
  have HC : Hid (∀ (w : World), Calls Tryz.prog 57 #[.agg #[.int .i64 a, .int .i64 b, .int .i64 c, .int .i64 d]] w fun e w' => e = .returned (.bool true) ∧ Below w.heap.size w w') := fun w => by have := rformed_any a b c d w; rwa [ht] at this
  have HD : Hid (∀ (w : World), Calls Tryz.prog 57 #[.agg #[.int .i64 e, .int .i64 f, .int .i64 g, .int .i64 h]] w fun e w' => e = .returned (.bool false) ∧ Below w.heap.size w w') := fun w => by have := rformed_any e f g h w; rwa [hf] at this
  clear hf ht
  go_enter Tryz.func36, Tryz.ntmps36
  go_wp2_with (go_at_call 57; refine (HC.out _).mono ?_)
  rintro e w1 ⟨rfl, b1⟩
  have z1 := at_below b1 (Nat.le_refl _) new2
  have z2 := at_below b1 (Nat.le_refl _) (at_alloc new1)
  have y1 : Hid (Below w.heap.size w w1) := below_from (by go_grown) b1 (by simp; omega)
  obtain ⟨k0, k1, k2, k3, kf0, kf1, kf2, kf3, ks, kn⟩ := cells4 z2
  clear b1 z2 HC
  go_wp2_with (go_at_call 57; refine (HD.out _).mono ?_; rintro e w2 ⟨rfl, b2⟩; have z3 := at_below b2 (Nat.le_refl _) z1; obtain ⟨r0, r1, r2, r3, rf0, rf1, rf2, rf3, rs, rn⟩ := cells4 z3; have y2 : Hid (Below w.heap.size w w2) := below_from y1.out b2 y1.out.size)
  have r := at_set4 (v0 := .int .i64 0) (v1 := .int .i64 0) (v2 := .int .i64 0) (v3 := .int .i64 0) z3
  obtain ⟨c0, c1, c2, c3, -⟩ := cells4 r
  refine bodyPost_ret (by simp [results, Tryz.results36, go_sem, c0, c1, c2, c3]; rfl) rfl ?_
  exact ⟨rfl, (((y2.out.setCell (by simp; omega) _).setCell (by simp; omega) _).setCell (by simp; omega) _).setCell (by simp; omega) _⟩
set_option maxHeartbeats 2000000 in
theorem rsub_at (a b c d e f g h t0 t1 t2 t3 : Int) (w : World) (ht : fm a b c d = true) (hf : fm e f g h = true)
    (e0 : IntKind.i64.wrap (a - e) = t0) (e1 : IntKind.i64.wrap (b - f) = t1) (e2 : IntKind.i64.wrap (c - g) = t2) (e3 : IntKind.i64.wrap (d - h) = t3) :
    Calls Tryz.prog 36 #[.agg #[.int .i64 a, .int .i64 b, .int .i64 c, .int .i64 d], .agg #[.int .i64 e, .int .i64 f, .int .i64 g, .int .i64 h]] w fun r w' => r = ansV (if fm t0 t1 t2 t3 then (⟨t0, t1, t2, t3⟩, 0) else (V.nil, 2)) ∧ Below w.heap.size w w' := by
  have HC : Hid (∀ (w : World), Calls Tryz.prog 57 #[.agg #[.int .i64 a, .int .i64 b, .int .i64 c, .int .i64 d]] w fun e w' => e = .returned (.bool true) ∧ Below w.heap.size w w') := fun w => by have := rformed_any a b c d w; rwa [ht] at this
  have HD : Hid (∀ (w : World), Calls Tryz.prog 57 #[.agg #[.int .i64 e, .int .i64 f, .int .i64 g, .int .i64 h]] w fun e w' => e = .returned (.bool true) ∧ Below w.heap.size w w') := fun w => by have := rformed_any e f g h w; rwa [hf] at this
  have HT : Hid (∀ (w : World), Calls Tryz.prog 57 #[.agg #[.int .i64 t0, .int .i64 t1, .int .i64 t2, .int .i64 t3]] w fun e w' => e = .returned (.bool (fm t0 t1 t2 t3)) ∧ Below w.heap.size w w') := fun w => rformed_any t0 t1 t2 t3 w
  generalize fm t0 t1 t2 t3 = bt at *
  clear hf ht
  go_enter Tryz.func36, Tryz.ntmps36
  go_wp2_with (go_at_call 57; refine (HC.out _).mono ?_)
  rintro e w1 ⟨rfl, b1⟩
  have z1 := at_below b1 (Nat.le_refl _) new2
  have z2 := at_below b1 (Nat.le_refl _) (at_alloc new1)
  have z3 := at_below b1 (Nat.le_refl _) (at_alloc (at_alloc new0))
  have y1 : Hid (Below w.heap.size w w1) := below_from (by go_grown) b1 (by simp; omega)
  obtain ⟨k0, k1, k2, k3, kf0, kf1, kf2, kf3, ks, kn⟩ := cells4 z2
  clear b1 HC
  go_wp2_with (go_at_call 57; refine (HD.out _).mono ?_)
  rintro e w2 ⟨rfl, b2⟩
  have z1 := at_below b2 (Nat.le_refl _) z1
  have z2 := at_below b2 (Nat.le_refl _) z2
  have z3 := at_below b2 (Nat.le_refl _) z3
  have y2 : Hid (Below w.heap.size w w2) := below_from y1.out b2 y1.out.size
  clear k0 k1 k2 k3 kf0 kf1 kf2 kf3 ks kn b2 y1 HD
  obtain ⟨k0, k1, k2, k3, kf0, kf1, kf2, kf3, ks, kn⟩ := cells4 z2
  obtain ⟨l0, l1, l2, l3, lf0, lf1, lf2, lf3, ls, ln⟩ := cells4 z3
  obtain ⟨r0, r1, r2, r3, rf0, rf1, rf2, rf3, rs, rn⟩ := cells4 z1
  go_wp2_with fail
  refine wp_loop_rounds 5 ?_
  rw [rounds_succ]
  go_wp2_with fail
  go_region
  go_wp2_with fail
  rw [rounds_succ]
  go_wp2_with fail
  go_region
  go_wp2_with fail
  rw [rounds_succ]
  go_wp2_with fail
  go_region
  go_wp2_with fail
  rw [rounds_succ]
  go_wp2_with fail
  go_region
  go_wp2_with fail
  rw [rounds_succ]
  go_wp2_with (go_at_call 57; refine (HT.out _).mono ?_)
  rintro e w3 ⟨rfl, b3⟩
  have x1 := at_below b3 (Nat.le_refl _) (at_drew (at_drew (at_drew (at_drew (at_alloc z1)))))
  have x4 := at_below b3 (Nat.le_refl _) (at_drew (at_drew (at_drew (at_drew new0))))
  have y3 : Hid (Below w.heap.size w w3) := below_from (y2.out.alloc y2.out.size _).drew.drew.drew.drew b3 (by have := y2.out.size; simp; omega)
  clear k0 k1 k2 k3 kf0 kf1 kf2 kf3 ks kn l0 l1 l2 l3 lf0 lf1 lf2 lf3 ls ln r0 r1 r2 r3 rf0 rf1 rf2 rf3 rs rn b3 HT z1 z2 z3 e0 e1 e2 e3
  obtain ⟨k0, k1, k2, k3, kf0, kf1, kf2, kf3, ks, kn⟩ := cells4 x4
  obtain ⟨r0, r1, r2, r3, rf0, rf1, rf2, rf3, rs, rn⟩ := cells4 x1
  cases bt
  · go_wp2_with fail
    have r := at_set4 (v0 := .int .i64 0) (v1 := .int .i64 0) (v2 := .int .i64 0) (v3 := .int .i64 0) x1
    obtain ⟨c0, c1, c2, c3, -⟩ := cells4 r
    refine bodyPost_ret (by simp [results, Tryz.results36, go_sem, c0, c1, c2, c3]; rfl) rfl ?_
    exact ⟨rfl, (((y3.out.setCell (by simp; omega) _).setCell (by simp; omega) _).setCell (by simp; omega) _).setCell (by simp; omega) _⟩
  · go_wp2_with fail
    have r := at_set4 (v0 := .int .i64 t0) (v1 := .int .i64 t1) (v2 := .int .i64 t2) (v3 := .int .i64 t3) x1
    obtain ⟨c0, c1, c2, c3, -⟩ := cells4 r
    refine bodyPost_ret (by simp [results, Tryz.results36, go_sem, c0, c1, c2, c3]; rfl) rfl ?_
    exact ⟨rfl, (((y3.out.setCell (by simp; omega) _).setCell (by simp; omega) _).setCell (by simp; omega) _).setCell (by simp; omega) _⟩
theorem rsub_any (a b c d e f g h : Int) (w : World) :
    Calls Tryz.prog 36 #[.agg #[.int .i64 a, .int .i64 b, .int .i64 c, .int .i64 d], .agg #[.int .i64 e, .int .i64 f, .int .i64 g, .int .i64 h]] w fun r w' => r = ansV (subR ⟨a, b, c, d⟩ ⟨e, f, g, h⟩) ∧ Below w.heap.size w w' := by
  unfold subR
  by_cases h1 : fm a b c d = true
  · by_cases h2 : fm e f g h = true
    · have o1 := okV (v := ⟨a, b, c, d⟩) h1
      have o2 := okV (v := ⟨e, f, g, h⟩) h2
      simp only [] at o1 o2
      have := rsub_at a b c d e f g h _ _ _ _ w h1 h2 (wrap_ok (by omega) (by omega)) (wrap_ok (by omega) (by omega)) (wrap_ok (by omega) (by omega)) (wrap_ok (by omega) (by omega))
      rw [if_pos (by simp [V.ok, h1, h2])]
      exact this
    · rw [if_neg (by simp [V.ok, h2])]
      exact rsub_bad2 a b c d e f g h w h1 (Bool.eq_false_iff.2 h2)
  · rw [if_neg (by simp [V.ok, h1])]
    exact rsub_bad1 a b c d e f g h w (Bool.eq_false_iff.2 h1)

end Go.Proofs.YtjgibngnjlciaaaGreat
