/-
  Swap, raw.
-/
import Derived.Test.YtihjmigjphljnaaTWc
namespace Go.Proofs.Ytihjmigjphljnaa.Tk
open Go.RowKit Go.Maps Go.WideMaps

theorem Kp.cell {S : Nat → Prop} {w w1 : World} {p : Addr} {v : Value} (h : Kp S w w1) (hc : w.cell? p = some v) (hn : ¬ S p.block) : w1.cell? p = some v := (cell_eq (h.block _ (cell_lt hc) hn)).trans hc
set_option maxHeartbeats 2000000 in
theorem swap_raw (w : World) (cb g n c m i j : Nat) (x y : Al) (c0 : w.cell? ⟨cb, 1, none⟩ = some (.slice (some ⟨g, 0, none⟩) n c)) (hi : i < n) (hj : j < n)
    (x0 : w.cell? ⟨g, i * 2, none⟩ = some (.string x.nm)) (x1 : w.cell? ⟨g, i * 2 + 1, none⟩ = some (.int .i64 x.at')) (y0 : w.cell? ⟨g, j * 2, none⟩ = some (.string y.nm)) (y1 : w.cell? ⟨g, j * 2 + 1, none⟩ = some (.int .i64 y.at')) (Q1 Q2 : World → Prop) (hm : Hid (m < w.heap.size))
    (H1 : Hid (∀ W, Below w.heap.size w W → Calls Try.prog 97 #[.agg #[.pointer (some ⟨cb, 1, none⟩)], .agg #[.string y.nm, .int .i64 y.at'], .int .i64 i] W fun e w' => e = .returned (.tuple #[]) ∧ Q1 w' ∧ Kp (fun k => k = g ∨ k = m) W w'))
    (H2 : Hid (∀ W, Q1 W → Calls Try.prog 97 #[.agg #[.pointer (some ⟨cb, 1, none⟩)], .agg #[.string x.nm, .int .i64 x.at'], .int .i64 j] W fun e w' => e = .returned (.tuple #[]) ∧ Q2 w' ∧ Kp (fun k => k = g ∨ k = m) W w')) :
    Calls Try.prog 96 #[.agg #[.pointer (some ⟨cb, 1, none⟩)], .int .i64 i, .int .i64 j] w fun e w' => e = .returned (.tuple #[]) ∧ Q2 w' ∧ Kp (fun k => k = g ∨ k = m) w w' := by
  have hi' : (i : Int) < (n : Int) := by omega
  have hj' : (j : Int) < (n : Int) := by omega
  have hgl : Hid (g < w.heap.size) := cell_lt x0
  obtain ⟨xn, xa⟩ := x
  obtain ⟨yn, ya⟩ := y
  simp only at x0 x1 y0 y1 H1 H2
  have Hb : Hid (Below w.heap.size w (w.alloc (.cells #[.pointer (some ⟨cb, 1, none⟩)] 100 (0, 0)))) := (Below.refl _ w).alloc (Nat.le_refl _) _
  have Hn : Hid ((w.alloc (.cells #[.pointer (some ⟨cb, 1, none⟩)] 100 (0, 0))).heap[w.heap.size]? = some (.cells #[.pointer (some ⟨cb, 1, none⟩)] 100 (0, 0))) := new0
  go_enter Try.func96, Try.ntmps96
  go_upto_region 1 with fail
  have k0 : ∀ (p : Addr) v, w.cell? p = some v → (w.alloc (.cells #[.pointer (some ⟨cb, 1, none⟩)] 100 (0, 0))).cell? p = some v := fun p v h => cell_below h Hb.out
  replace c0 := k0 _ _ c0
  replace x0 := k0 _ _ x0
  replace x1 := k0 _ _ x1
  replace y0 := k0 _ _ y0
  replace y1 := k0 _ _ y1
  have b0 : (w.alloc (.cells #[.pointer (some ⟨cb, 1, none⟩)] 100 (0, 0))).cell? ⟨w.heap.size, 0, none⟩ = some (.pointer (some ⟨cb, 1, none⟩)) := by rw [cell_of Hn.out]; rfl
  have l0 := cell_lt c0
  have l1 := cell_lt x0
  have l2 := cell_lt b0
  simp only at l0 l1 l2
  clear k0 Hn
  generalize w.alloc (.cells #[.pointer (some ⟨cb, 1, none⟩)] 100 (0, 0)) = w1 at *
  go_cut [6, 7] from 8 to 23 (fun s6 s7 wx => ∃ ga gb : Nat, s6 = .pointer (some ⟨ga, 0, none⟩) ∧ s7 = .pointer (some ⟨gb, 0, none⟩) ∧ wx.cell? ⟨ga, 0, none⟩ = some (.string xn) ∧ wx.cell? ⟨ga, 1, none⟩ = some (.int .i64 xa) ∧ wx.cell? ⟨gb, 0, none⟩ = some (.string yn) ∧ wx.cell? ⟨gb, 1, none⟩ = some (.int .i64 ya) ∧ wx.cell? ⟨w.heap.size, 0, none⟩ = some (.pointer (some ⟨cb, 1, none⟩)) ∧ Below w.heap.size w wx ∧ w.heap.size ≤ ga ∧ w.heap.size ≤ gb)
  case first =>
    go_region
    all_goals (go_wp2_with fail; go_meet)
    all_goals (refine ⟨_, _, rfl, rfl, ?_, ?_, ?_, ?_, ?_, ?_, ?_, ?_⟩)
    all_goals first | omega | (simp; done) | exact cell_below b0 (((Below.refl _ _).alloc (Nat.le_refl _) _).alloc (by simp) _).drew | exact ((Hb.out.alloc (by omega) _).alloc (by simp; omega) _).drew | skip
  case rest =>
    obtain ⟨ga, gb, rfl, rfl, a0, a1, e0, e1, b1, hbel, la, lb⟩ := hcut
    replace hbel : Hid _ := hbel
    have na : Hid (¬ (ga = g ∨ ga = m)) := fun e => by have := hgl.out; have := hm.out; omega
    have nl : Hid (¬ (w.heap.size = g ∨ w.heap.size = m)) := fun e => by have := hgl.out; have := hm.out; omega
    clear x0 x1 y0 y1 c0 b0 l0 l1 l2 Hb
    go_upto_region 2 with fail
    go_wp2_with (go_at_call 97; refine (H1.out _ hbel.out).mono ?_)
    rintro e w2 ⟨rfl, q1, k1⟩
    replace q1 : Hid (Q1 w2) := q1
    replace k1 : Hid (Kp (fun k => k = g ∨ k = m) wc w2) := k1
    have a2 := k1.out.cell a0 na.out
    have a3 := k1.out.cell a1 na.out
    have b2 := k1.out.cell b1 nl.out
    clear a0 a1 b1 e0 e1 H1
    go_wp2_with (go_at_call 97; refine (H2.out _ q1.out).mono ?_)
    rintro e w3 ⟨rfl, q2, k2⟩
    replace q2 : Hid (Q2 w3) := q2
    replace k2 : Hid (Kp (fun k => k = g ∨ k = m) w2 w3) := k2
    go_wp2_with fail
    go_end0
    exact ⟨rfl, q2.out, (Kp.of_below hbel.out).trans (k1.out.trans k2.out fun _ _ h => h) fun _ _ h => h⟩
end Go.Proofs.Ytihjmigjphljnaa.Tk
