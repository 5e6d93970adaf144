/-
  The document's ledger: Used, Left, Names' row, wrong, sum.
-/
import Derived.Test.YtehgcaaeifnjeaaRa
import Derived.BigRegion
namespace Go.Proofs.Ytehgcaaeifnjeaa
open Go.RowKit Go.Maps

set_option maxHeartbeats 1000000 in
theorem rused_no (w : World) (p : Value) (s : List UInt8) (H : Hid (∀ w1, Below w.heap.size w w1 → Calls Try.prog 32 #[p, .string ⟨⟨s⟩⟩] w1 fun e w' => e = .returned (.int .i64 (-1)) ∧ w' = w1)) : Calls Try.prog 15 #[p, .string ⟨⟨s⟩⟩] w fun e w' => e = ansV (V.nil, 3) ∧ Below w.heap.size w w' := by
  go_enter Try.func15, Try.ntmps15
  go_wp2_with (go_at_call 32; refine (H.out _ ((Below.refl _ w).alloc (Nat.le_refl _) _)).mono ?_)
  rintro e w1 ⟨rfl, rfl⟩
  have z1 := new0 (w := w) (o := .cells #[.int .i64 0, .int .i64 0, .int .i64 0, .int .i64 0] 33)
  have y1 : Hid (Below w.heap.size w (w.alloc (.cells #[.int .i64 0, .int .i64 0, .int .i64 0, .int .i64 0] 33))) := (Below.refl _ w).alloc (Nat.le_refl _) _
  generalize w.alloc (.cells #[.int .i64 0, .int .i64 0, .int .i64 0, .int .i64 0] 33) = W at *
  obtain ⟨r0, r1, r2, r3, rf0, rf1, rf2, rf3, rs, rn⟩ := cells4 z1
  clear H
  go_wp2_with fail
  have r := at_set4 (v0 := .int .i64 0) (v1 := .int .i64 0) (v2 := .int .i64 0) (v3 := .int .i64 0) z1
  obtain ⟨c0, c1, c2, c3, -⟩ := cells4 r
  refine bodyPost_ret (by simp [results, Try.results15, go_sem, c0, c1, c2, c3]; rfl) rfl ?_
  exact ⟨rfl, (((y1.out.setCell (by simp) _).setCell (by simp) _).setCell (by simp) _).setCell (by simp) _⟩
set_option maxHeartbeats 1000000 in
theorem rused_yes (w : World) (rb g n c k : Nat) (s : List UInt8) (e0 e1 e2 e3 : Int) (hk : k < n) (hc : Hid (w.heap[rb]? = some (.cells #[.slice (some ⟨g, 0, none⟩) n c] 30 (0, 0)))) (hd : Hid (w.cell? ⟨g, k * 9 + 5, none⟩ = some (.int .i64 e0) ∧ w.cell? ⟨g, k * 9 + 5 + 1, none⟩ = some (.int .i64 e1) ∧ w.cell? ⟨g, k * 9 + 5 + 2, none⟩ = some (.int .i64 e2) ∧ w.cell? ⟨g, k * 9 + 5 + 3, none⟩ = some (.int .i64 e3)))
    (H : Hid (∀ w1, Below w.heap.size w w1 → Calls Try.prog 32 #[.pointer (some ⟨rb, 0, none⟩), .string ⟨⟨s⟩⟩] w1 fun e w' => e = .returned (.int .i64 k) ∧ w' = w1)) : Calls Try.prog 15 #[.pointer (some ⟨rb, 0, none⟩), .string ⟨⟨s⟩⟩] w fun e w' => e = ansV (⟨e0, e1, e2, e3⟩, 0) ∧ Below w.heap.size w w' := by
  have hki : (k : Int) < (n : Int) := by omega
  go_enter Try.func15, Try.ntmps15
  go_wp2_with (go_at_call 32; refine (H.out _ ((Below.refl _ w).alloc (Nat.le_refl _) _)).mono ?_)
  rintro e w1 ⟨rfl, rfl⟩
  have z1 := new0 (w := w) (o := .cells #[.int .i64 0, .int .i64 0, .int .i64 0, .int .i64 0] 33)
  have y1 : Hid (Below w.heap.size w (w.alloc (.cells #[.int .i64 0, .int .i64 0, .int .i64 0, .int .i64 0] 33))) := (Below.refl _ w).alloc (Nat.le_refl _) _
  have k0 := c1 (at_alloc (o := .cells #[.int .i64 0, .int .i64 0, .int .i64 0, .int .i64 0] 33) hc.out)
  have l0 := cell_below hd.out.1 y1.out
  have l1 := cell_below hd.out.2.1 y1.out
  have l2 := cell_below hd.out.2.2.1 y1.out
  have l3 := cell_below hd.out.2.2.2 y1.out
  have hgs : g < (w.alloc (.cells #[.int .i64 0, .int .i64 0, .int .i64 0, .int .i64 0] 33)).heap.size := cell_lt l0
  have hgn : g ≠ w.heap.size := by have := cell_lt hd.out.1; simp only at this; omega
  generalize w.alloc (.cells #[.int .i64 0, .int .i64 0, .int .i64 0, .int .i64 0] 33) = W at *
  obtain ⟨r0, r1, r2, r3, rf0, rf1, rf2, rf3, rs, rn⟩ := cells4 z1
  clear H hd hc
  go_wp2_with fail
  have r := at_set4 (v0 := .int .i64 e0) (v1 := .int .i64 e1) (v2 := .int .i64 e2) (v3 := .int .i64 e3) z1
  obtain ⟨c0, c1, c2, c3, -⟩ := cells4 r
  refine bodyPost_ret (by simp [results, Try.results15, go_sem, c0, c1, c2, c3]; rfl) rfl ?_
  exact ⟨rfl, (((y1.out.setCell (by simp) _).setCell (by simp) _).setCell (by simp) _).setCell (by simp) _⟩
theorem rused_any {w : World} {T : Nat → Prop} {rb : Nat} {D : List A} (h : Ref w T rb D) (s : List UInt8) :
    Calls Try.prog 15 #[.pointer (some ⟨rb, 0, none⟩), .string ⟨⟨s⟩⟩] w fun e w' => e = ansV (usedD D s) ∧ Below w.heap.size w w' := by
  obtain ⟨⟨q, n, c, h1, -⟩, -⟩ := h
  unfold usedD
  cases hf : fnd A.nm s D with
  | none => exact rused_no w _ s fun w1 b => rfind_no (h1.below b) hf
  | some a =>
    obtain ⟨k, hk⟩ := fnd_place hf
    obtain ⟨g, rfl⟩ := h1.row.some hk
    have hkn : k < n := by have := (List.getElem?_eq_some_iff.1 hk).1; have := h1.n; omega
    obtain ⟨-, -, -, -, -, u0, u1, u2, u3⟩ := h1.row.cells hk
    exact rused_yes w rb g n c k s a.us.a a.us.b a.us.c a.us.d hkn h1.cell ⟨u0, u1, u2, u3⟩ fun w1 b => rfind_yes (h1.below b) hk (fnd_some hf).2
set_option maxHeartbeats 1000000 in
theorem rleft_no (w : World) (p : Value) (s : List UInt8) (H : Hid (∀ w1, Below w.heap.size w w1 → Calls Try.prog 32 #[p, .string ⟨⟨s⟩⟩] w1 fun e w' => e = .returned (.int .i64 (-1)) ∧ w' = w1)) : Calls Try.prog 28 #[p, .string ⟨⟨s⟩⟩] w fun e w' => e = ansV (V.nil, 3) ∧ Below w.heap.size w w' := by
  go_enter Try.func28, Try.ntmps28
  go_wp2_with (go_at_call 32; refine (H.out _ ((Below.refl _ w).alloc (Nat.le_refl _) _)).mono ?_)
  rintro e w1 ⟨rfl, rfl⟩
  have z1 := new0 (w := w) (o := .cells #[.int .i64 0, .int .i64 0, .int .i64 0, .int .i64 0] 33)
  have y1 : Hid (Below w.heap.size w (w.alloc (.cells #[.int .i64 0, .int .i64 0, .int .i64 0, .int .i64 0] 33))) := (Below.refl _ w).alloc (Nat.le_refl _) _
  generalize w.alloc (.cells #[.int .i64 0, .int .i64 0, .int .i64 0, .int .i64 0] 33) = W at *
  obtain ⟨r0, r1, r2, r3, rf0, rf1, rf2, rf3, rs, rn⟩ := cells4 z1
  clear H
  go_wp2_with fail
  have r := at_set4 (v0 := .int .i64 0) (v1 := .int .i64 0) (v2 := .int .i64 0) (v3 := .int .i64 0) z1
  obtain ⟨c0, c1, c2, c3, -⟩ := cells4 r
  refine bodyPost_ret (by simp [results, Try.results28, go_sem, c0, c1, c2, c3]; rfl) rfl ?_
  exact ⟨rfl, (((y1.out.setCell (by simp) _).setCell (by simp) _).setCell (by simp) _).setCell (by simp) _⟩
def lv (m0 m1 m2 m3 : Int) (i : Nat) : Obj := .cells #[.int .i64 (if 0 < i then m0 else 0), .int .i64 (if 1 < i then m1 else 0), .int .i64 (if 2 < i then m2 else 0), .int .i64 (if 3 < i then m3 else 0)] 33 (0, 0)
set_option maxHeartbeats 4000000 in
set_option maxRecDepth 100000 in
theorem rleft_yes (w : World) (rb g n c k : Nat) (s : List UInt8) (a0 a1 a2 a3 e0 e1 e2 e3 t0 t1 t2 t3 : Int) (hk : k < n) (hc : Hid (w.heap[rb]? = some (.cells #[.slice (some ⟨g, 0, none⟩) n c] 30 (0, 0))))
    (hl : Hid (w.cell? ⟨g, k * 9 + 1, none⟩ = some (.int .i64 a0) ∧ w.cell? ⟨g, k * 9 + 1 + 1, none⟩ = some (.int .i64 a1) ∧ w.cell? ⟨g, k * 9 + 1 + 2, none⟩ = some (.int .i64 a2) ∧ w.cell? ⟨g, k * 9 + 1 + 3, none⟩ = some (.int .i64 a3)))
    (hd : Hid (w.cell? ⟨g, k * 9 + 5, none⟩ = some (.int .i64 e0) ∧ w.cell? ⟨g, k * 9 + 5 + 1, none⟩ = some (.int .i64 e1) ∧ w.cell? ⟨g, k * 9 + 5 + 2, none⟩ = some (.int .i64 e2) ∧ w.cell? ⟨g, k * 9 + 5 + 3, none⟩ = some (.int .i64 e3)))
    (f0 : IntKind.i64.wrap (a0 - e0) = t0) (f1 : IntKind.i64.wrap (a1 - e1) = t1) (f2 : IntKind.i64.wrap (a2 - e2) = t2) (f3 : IntKind.i64.wrap (a3 - e3) = t3)
    (H : Hid (∀ w1, Below w.heap.size w w1 → Calls Try.prog 32 #[.pointer (some ⟨rb, 0, none⟩), .string ⟨⟨s⟩⟩] w1 fun e w' => e = .returned (.int .i64 k) ∧ w' = w1)) : Calls Try.prog 28 #[.pointer (some ⟨rb, 0, none⟩), .string ⟨⟨s⟩⟩] w fun e w' => e = ansV (⟨max 0 t0, max 0 t1, max 0 t2, max 0 t3⟩, 0) ∧ Below w.heap.size w w' := by
  generalize hm0 : max 0 t0 = m0
  generalize hm1 : max 0 t1 = m1
  generalize hm2 : max 0 t2 = m2
  generalize hm3 : max 0 t3 = m3
  have hki : (k : Int) < (n : Int) := by omega
  go_enter Try.func28, Try.ntmps28
  go_wp2_with (go_at_call 32; refine (H.out _ ((Below.refl _ w).alloc (Nat.le_refl _) _)).mono ?_)
  rintro e w1 ⟨rfl, rfl⟩
  go_upto_region 5 with fail
  have z1 := at_alloc (o := .cells #[.int .i64 0, .int .i64 0, .int .i64 0, .int .i64 0] 33) (new0 (w := w) (o := .cells #[.int .i64 0, .int .i64 0, .int .i64 0, .int .i64 0] 33))
  have z2 := new1 (w := w) (A := .cells #[.int .i64 0, .int .i64 0, .int .i64 0, .int .i64 0] 33) (B := .cells #[.int .i64 0, .int .i64 0, .int .i64 0, .int .i64 0] 33)
  have Y1 : Hid (Below w.heap.size w ((w.alloc (.cells #[.int .i64 0, .int .i64 0, .int .i64 0, .int .i64 0] 33)).alloc (.cells #[.int .i64 0, .int .i64 0, .int .i64 0, .int .i64 0] 33))) := ((Below.refl _ w).alloc (Nat.le_refl _) _).alloc (by simp) _
  have HS : Hid (w.heap.size + 1 < ((w.alloc (.cells #[.int .i64 0, .int .i64 0, .int .i64 0, .int .i64 0] 33)).alloc (.cells #[.int .i64 0, .int .i64 0, .int .i64 0, .int .i64 0] 33)).heap.size) := by show _ < _; simp
  clear H
  generalize (w.alloc (.cells #[.int .i64 0, .int .i64 0, .int .i64 0, .int .i64 0] 33)).alloc (.cells #[.int .i64 0, .int .i64 0, .int .i64 0, .int .i64 0] 33) = W at *
  have HB : Hid (W.heap[w.heap.size]? = some (.cells #[.int .i64 0, .int .i64 0, .int .i64 0, .int .i64 0] 33 (0, 0)) ∧ W.heap[w.heap.size + 1]? = some (lv m0 m1 m2 m3 0)) := ⟨z1, z2⟩
  clear z1 z2
  go_wp2_with fail
  go_loopw [8] (fun x wr => ∃ i : Nat, x = .int .i64 i ∧ i ≤ 4 ∧ Hid (Below w.heap.size w wr ∧ wr.heap[w.heap.size]? = some (.cells #[.int .i64 0, .int .i64 0, .int .i64 0, .int .i64 0] 33 (0, 0)) ∧ wr.heap[w.heap.size + 1]? = some (lv m0 m1 m2 m3 i))) (fun x _ => 4 - (intOf x).toNat)
  case atStart => exact ⟨0, rfl, by omega, Y1.out, HB.out.1, HB.out.2⟩
  case round =>
    obtain ⟨i, rfl, hi, HI⟩ := hrel
    clear HB Y1 HS
    have x0 := HI.out.2.1
    have x1 := HI.out.2.2
    have k0 := c1 (at_below HI.out.1 (Nat.le_refl _) hc.out)
    have l0 := cell_below hl.out.1 HI.out.1
    have l1 := cell_below hl.out.2.1 HI.out.1
    have l2 := cell_below hl.out.2.2.1 HI.out.1
    have l3 := cell_below hl.out.2.2.2 HI.out.1
    have u0 := cell_below hd.out.1 HI.out.1
    have u1 := cell_below hd.out.2.1 HI.out.1
    have u2 := cell_below hd.out.2.2.1 HI.out.1
    have u3 := cell_below hd.out.2.2.2 HI.out.1
    rcases (by omega : i = 4 ∨ i = 0 ∨ i = 1 ∨ i = 2 ∨ i = 3) with rfl | rfl | rfl | rfl | rfl
    · unfold lv at x1
      simp only [Nat.reduceLT, if_true] at x1
      obtain ⟨p0, p1, p2, p3, -⟩ := cells4 x1
      obtain ⟨r0, r1, r2, r3, rf0, rf1, rf2, rf3, rs, rn⟩ := cells4 x0
      have hne : w.heap.size + 1 ≠ w.heap.size := by omega
      have HY : Hid (Below w.heap.size w wr) := HI.out.1
      clear HI l0 l1 l2 l3 u0 u1 u2 u3 k0
      go_wp2_with fail
      have r := at_set4 (v0 := .int .i64 m0) (v1 := .int .i64 m1) (v2 := .int .i64 m2) (v3 := .int .i64 m3) x0
      obtain ⟨c0, c1, c2, c3, -⟩ := cells4 r
      refine bodyPost_ret (by simp [results, Try.results28, go_sem, c0, c1, c2, c3]; rfl) rfl ?_
      exact ⟨rfl, (((HY.out.setCell (by simp) _).setCell (by simp) _).setCell (by simp) _).setCell (by simp) _⟩
    · unfold lv at x1
      simp only [Nat.reduceLT, Nat.lt_irrefl, if_false] at x1
      obtain ⟨p0, p1, p2, p3, pf0, pf1, pf2, pf3, ps, pn⟩ := cells4 x1
      have HX : Hid (∀ W' : World, W'.heap = wr.heap → (W'.setCell ⟨w.heap.size + 1, 0, none⟩ (.int .i64 m0)).heap[w.heap.size + 1]? = some (lv m0 m1 m2 m3 1)) := fun W' e => by
        have := setB (w := W') (i := 0) (by rw [e]; exact x1) (.int .i64 m0)
        exact this
      have HY : Hid (∀ W' : World, Below wr.heap.size wr W' → Below w.heap.size w (W'.setCell ⟨w.heap.size + 1, 0, none⟩ (.int .i64 m0)) ∧ (W'.setCell ⟨w.heap.size + 1, 0, none⟩ (.int .i64 m0)).heap[w.heap.size]? = some (.cells #[.int .i64 0, .int .i64 0, .int .i64 0, .int .i64 0] 33 (0, 0))) := fun W' b => ⟨(below_from HI.out.1 b HI.out.1.size).setCell (by simp) _, at_other (at_below b (Nat.le_refl _) HI.out.2.1) (by omega)⟩
      clear HI x0 x1
      go_wp2_with fail
      go_region
      all_goals go_wp2_with fail
      all_goals exact ⟨⟨1, by simp, by omega, (HY.out _ (below_drewN (Below.refl _ wr) _)).1, (HY.out _ (below_drewN (Below.refl _ wr) _)).2, HX.out _ rfl⟩, by simp [intOf]⟩
    · unfold lv at x1
      simp only [Nat.reduceLT, Nat.lt_irrefl, if_true, if_false] at x1
      obtain ⟨p0, p1, p2, p3, pf0, pf1, pf2, pf3, ps, pn⟩ := cells4 x1
      have HX : Hid (∀ W' : World, W'.heap = wr.heap → (W'.setCell ⟨w.heap.size + 1, 1, none⟩ (.int .i64 m1)).heap[w.heap.size + 1]? = some (lv m0 m1 m2 m3 2)) := fun W' e => by
        have := setB (w := W') (i := 1) (by rw [e]; exact x1) (.int .i64 m1)
        exact this
      have HY : Hid (∀ W' : World, Below wr.heap.size wr W' → Below w.heap.size w (W'.setCell ⟨w.heap.size + 1, 1, none⟩ (.int .i64 m1)) ∧ (W'.setCell ⟨w.heap.size + 1, 1, none⟩ (.int .i64 m1)).heap[w.heap.size]? = some (.cells #[.int .i64 0, .int .i64 0, .int .i64 0, .int .i64 0] 33 (0, 0))) := fun W' b => ⟨(below_from HI.out.1 b HI.out.1.size).setCell (by simp) _, at_other (at_below b (Nat.le_refl _) HI.out.2.1) (by omega)⟩
      clear HI x0 x1
      go_wp2_with fail
      go_region
      all_goals go_wp2_with fail
      all_goals exact ⟨⟨2, by simp, by omega, (HY.out _ (below_drewN (Below.refl _ wr) _)).1, (HY.out _ (below_drewN (Below.refl _ wr) _)).2, HX.out _ rfl⟩, by simp [intOf]⟩
    · unfold lv at x1
      simp only [Nat.reduceLT, Nat.lt_irrefl, if_true, if_false] at x1
      obtain ⟨p0, p1, p2, p3, pf0, pf1, pf2, pf3, ps, pn⟩ := cells4 x1
      have HX : Hid (∀ W' : World, W'.heap = wr.heap → (W'.setCell ⟨w.heap.size + 1, 2, none⟩ (.int .i64 m2)).heap[w.heap.size + 1]? = some (lv m0 m1 m2 m3 3)) := fun W' e => by
        have := setB (w := W') (i := 2) (by rw [e]; exact x1) (.int .i64 m2)
        exact this
      have HY : Hid (∀ W' : World, Below wr.heap.size wr W' → Below w.heap.size w (W'.setCell ⟨w.heap.size + 1, 2, none⟩ (.int .i64 m2)) ∧ (W'.setCell ⟨w.heap.size + 1, 2, none⟩ (.int .i64 m2)).heap[w.heap.size]? = some (.cells #[.int .i64 0, .int .i64 0, .int .i64 0, .int .i64 0] 33 (0, 0))) := fun W' b => ⟨(below_from HI.out.1 b HI.out.1.size).setCell (by simp) _, at_other (at_below b (Nat.le_refl _) HI.out.2.1) (by omega)⟩
      clear HI x0 x1
      go_wp2_with fail
      go_region
      all_goals go_wp2_with fail
      all_goals exact ⟨⟨3, by simp, by omega, (HY.out _ (below_drewN (Below.refl _ wr) _)).1, (HY.out _ (below_drewN (Below.refl _ wr) _)).2, HX.out _ rfl⟩, by simp [intOf]⟩
    · unfold lv at x1
      simp only [Nat.reduceLT, Nat.lt_irrefl, if_true, if_false] at x1
      obtain ⟨p0, p1, p2, p3, pf0, pf1, pf2, pf3, ps, pn⟩ := cells4 x1
      have HX : Hid (∀ W' : World, W'.heap = wr.heap → (W'.setCell ⟨w.heap.size + 1, 3, none⟩ (.int .i64 m3)).heap[w.heap.size + 1]? = some (lv m0 m1 m2 m3 4)) := fun W' e => by
        have := setB (w := W') (i := 3) (by rw [e]; exact x1) (.int .i64 m3)
        exact this
      have HY : Hid (∀ W' : World, Below wr.heap.size wr W' → Below w.heap.size w (W'.setCell ⟨w.heap.size + 1, 3, none⟩ (.int .i64 m3)) ∧ (W'.setCell ⟨w.heap.size + 1, 3, none⟩ (.int .i64 m3)).heap[w.heap.size]? = some (.cells #[.int .i64 0, .int .i64 0, .int .i64 0, .int .i64 0] 33 (0, 0))) := fun W' b => ⟨(below_from HI.out.1 b HI.out.1.size).setCell (by simp) _, at_other (at_below b (Nat.le_refl _) HI.out.2.1) (by omega)⟩
      clear HI x0 x1
      go_wp2_with fail
      go_region
      all_goals go_wp2_with fail
      all_goals exact ⟨⟨4, by simp, by omega, (HY.out _ (below_drewN (Below.refl _ wr) _)).1, (HY.out _ (below_drewN (Below.refl _ wr) _)).2, HX.out _ rfl⟩, by simp [intOf]⟩
theorem rleft_any {w : World} {T : Nat → Prop} {rb : Nat} {D : List A} (h : Ref w T rb D) (s : List UInt8) :
    Calls Try.prog 28 #[.pointer (some ⟨rb, 0, none⟩), .string ⟨⟨s⟩⟩] w fun e w' => e = ansV (leftD D s) ∧ Below w.heap.size w w' := by
  obtain ⟨⟨q, n, c, h1, -⟩, -⟩ := h
  unfold leftD
  cases hf : fnd A.nm s D with
  | none => exact rleft_no w _ s fun w1 b => rfind_no (h1.below b) hf
  | some a =>
    obtain ⟨k, hk⟩ := fnd_place hf
    obtain ⟨g, rfl⟩ := h1.row.some hk
    have hkn : k < n := by have := (List.getElem?_eq_some_iff.1 hk).1; have := h1.n; omega
    obtain ⟨-, l0, l1, l2, l3, u0, u1, u2, u3⟩ := h1.row.cells hk
    obtain ⟨h5, h6⟩ := h1.ok a (fnd_some hf).1
    have h5 := okV h5
    have h6 := okV h6
    exact rleft_yes w rb g n c k s _ _ _ _ _ _ _ _ _ _ _ _ hkn h1.cell ⟨l0, l1, l2, l3⟩ ⟨u0, u1, u2, u3⟩ (wrap_ok (by omega) (by omega)) (wrap_ok (by omega) (by omega)) (wrap_ok (by omega) (by omega)) (wrap_ok (by omega) (by omega)) fun w1 b => rfind_yes (h1.below b) hk (fnd_some hf).2
end Go.Proofs.Ytehgcaaeifnjeaa
