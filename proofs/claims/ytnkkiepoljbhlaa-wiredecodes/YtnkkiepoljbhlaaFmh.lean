/-
  The reference's Formed of a start (kind 7).
-/
import Derived.Test.YtnkkiepoljbhlaaFmg
namespace Go.Proofs.Ytnkkiepoljbhlaa
open Go.RowKit

theorem rnames_any (L : List ByteArray) (s : SL) (w : World) (h : SLh w s L.length (textsV L)) (hl : 1 ≤ L.length) (h6 : L.length ≤ 6) (hs : ∀ t ∈ L, t.size ≤ 9223372036854775000) :
    Calls Try.prog 32 #[.slice s.a s.n s.c] w fun e w' => e = .returned (.bool (L.all Txt.name)) ∧ Below w.heap.size w w' := by
  obtain ⟨h1, h2, h3⟩ := h
  rw [h2]
  rcases h1 with h1 | ⟨g, o, ha, h1⟩
  · exfalso; have := congrArg List.length h1; simp [textsV] at this; rw [this] at hl; simp at hl
  · rw [ha]; exact rnames_at L g o s.c L.length w rfl (by omega) hs h1

set_option maxHeartbeats 2000000 in
set_option maxRecDepth 100000 in
theorem rformed7 (p : PL) (hk : p.kind = 7) (n : Nat) (x : Bool) (z : Bool) (w : World) (hn : p.ns.n = n) (hx : wi p.id 1 100 = x)
    (H2 : Hid (∀ W, Below w.heap.size w W → 1 ≤ n → n ≤ 6 → Calls Try.prog 32 #[.slice p.ns.a n p.ns.c] W fun e w' => e = .returned (.bool z) ∧ Below W.heap.size W w')) :
    Calls Try.prog 14 #[.agg p.cells] w fun e w' => e = .returned (.bool (x && (decide (1 ≤ n ∧ n ≤ 6) && z))) ∧ Below w.heap.size w w' := by
  have H1 : Hid (∀ w, Calls Try.prog 31 #[.int .i64 p.id] w fun e w' => e = .returned (.bool x) ∧ Below w.heap.size w w') := fun w => hx ▸ rjnumber_any p.id w
  clear hx
  have hc : p.cells = #[.int .i64 7, .string p.tn, .int .i64 p.tw, .int .i64 p.q0, .int .i64 p.q1, .int .i64 p.q2, .int .i64 p.q3, .string p.nd, .int .i64 p.ep, .int .i64 p.v0, .int .i64 p.v1, .int .i64 p.v2, .int .i64 p.v3, .int .i64 p.jb.id, .string p.jb.tn, .int .i64 p.jb.pr, .int .i64 p.jb.rt, .slice p.jb.pa.a p.jb.pa.n p.jb.pa.c, .slice p.jb.tk.a p.jb.tk.n p.jb.tk.c, .int .i64 p.jb.st, .int .i64 p.jb.at', .slice p.jb.nd.a p.jb.nd.n p.jb.nd.c, .int .i64 p.jb.sr, .slice p.jb.dn.a p.jb.dn.n p.jb.dn.c, .int .i64 p.id, .slice p.ns.a n p.ns.c, .int .i64 p.st] := by unfold PL.cells SL.v; rw [hk, hn]
  rw [hc]
  go_enter Try.func14, Try.ntmps14
  go_upto_region 1 with fail
  have P1 : Hid _ := new0 (w := w) (o := .cells #[.int .i64 7, .string p.tn, .int .i64 p.tw, .int .i64 p.q0, .int .i64 p.q1, .int .i64 p.q2, .int .i64 p.q3, .string p.nd, .int .i64 p.ep, .int .i64 p.v0, .int .i64 p.v1, .int .i64 p.v2, .int .i64 p.v3, .int .i64 p.jb.id, .string p.jb.tn, .int .i64 p.jb.pr, .int .i64 p.jb.rt, .slice p.jb.pa.a p.jb.pa.n p.jb.pa.c, .slice p.jb.tk.a p.jb.tk.n p.jb.tk.c, .int .i64 p.jb.st, .int .i64 p.jb.at', .slice p.jb.nd.a p.jb.nd.n p.jb.nd.c, .int .i64 p.jb.sr, .slice p.jb.dn.a p.jb.dn.n p.jb.dn.c, .int .i64 p.id, .slice p.ns.a n p.ns.c, .int .i64 p.st] 32)
  have y1 : Hid (Below w.heap.size w (w.alloc (.cells #[.int .i64 7, .string p.tn, .int .i64 p.tw, .int .i64 p.q0, .int .i64 p.q1, .int .i64 p.q2, .int .i64 p.q3, .string p.nd, .int .i64 p.ep, .int .i64 p.v0, .int .i64 p.v1, .int .i64 p.v2, .int .i64 p.v3, .int .i64 p.jb.id, .string p.jb.tn, .int .i64 p.jb.pr, .int .i64 p.jb.rt, .slice p.jb.pa.a p.jb.pa.n p.jb.pa.c, .slice p.jb.tk.a p.jb.tk.n p.jb.tk.c, .int .i64 p.jb.st, .int .i64 p.jb.at', .slice p.jb.nd.a p.jb.nd.n p.jb.nd.c, .int .i64 p.jb.sr, .slice p.jb.dn.a p.jb.dn.n p.jb.dn.c, .int .i64 p.id, .slice p.ns.a n p.ns.c, .int .i64 p.st] 32))) := (Below.refl _ w).alloc (Nat.le_refl _) _
  generalize w.alloc (.cells #[.int .i64 7, .string p.tn, .int .i64 p.tw, .int .i64 p.q0, .int .i64 p.q1, .int .i64 p.q2, .int .i64 p.q3, .string p.nd, .int .i64 p.ep, .int .i64 p.v0, .int .i64 p.v1, .int .i64 p.v2, .int .i64 p.v3, .int .i64 p.jb.id, .string p.jb.tn, .int .i64 p.jb.pr, .int .i64 p.jb.rt, .slice p.jb.pa.a p.jb.pa.n p.jb.pa.c, .slice p.jb.tk.a p.jb.tk.n p.jb.tk.c, .int .i64 p.jb.st, .int .i64 p.jb.at', .slice p.jb.nd.a p.jb.nd.n p.jb.nd.c, .int .i64 p.jb.sr, .slice p.jb.dn.a p.jb.dn.n p.jb.dn.c, .int .i64 p.id, .slice p.ns.a n p.ns.c, .int .i64 p.st] 32) = W at *
  obtain ⟨e0, e24, e25⟩ := c27c P1.out
  go_wp2_with (go_at_call 31; refine (H1.out _).mono ?_)
  rintro e w1 ⟨rfl, b1⟩
  have P2 : Hid _ := at_below b1 (Nat.le_refl _) P1.out
  have y2 : Hid _ := below_from y1.out b1 y1.out.size
  clear b1 e0 e24 e25
  obtain ⟨e0, e24, e25⟩ := c27c P2.out
  cases x with
  | false =>
    go_wp2_with fail
    go_ret
    exact ⟨rfl, y2.out⟩
  | true =>
    by_cases h1 : 1 ≤ n
    · by_cases h2 : n ≤ 6
      · have HW : Hid (decide (1 ≤ n ∧ n ≤ 6) = true) := by unfold Hid; simp [h1, h2]
        have g1 : (1 : Int) ≤ n := by omega
        have g2 : (n : Int) ≤ 6 := by omega
        go_wp2_with (go_at_call 32; refine (H2.out _ y2.out (by omega) (by omega)).mono ?_)
        rintro e w3 ⟨rfl, b3⟩
        go_wp2_with fail
        go_ret
        exact ⟨by rw [HW.out]; rfl, below_from y2.out b3 y2.out.size⟩
      · have HW : Hid (decide (1 ≤ n ∧ n ≤ 6) = false) := by unfold Hid; simp; omega
        have g1 : (1 : Int) ≤ n := by omega
        have g2 : decide ((n : Int) ≤ 6) = false := by simp; omega
        go_wp2_with fail
        go_ret
        exact ⟨by rw [HW.out]; rfl, y2.out⟩
    · have HW : Hid (decide (1 ≤ n ∧ n ≤ 6) = false) := by unfold Hid; simp; omega
      have g1 : decide ((1 : Int) ≤ n) = false := by simp; omega
      go_wp2_with fail
      go_ret
      exact ⟨by rw [HW.out]; rfl, y2.out⟩

end Go.Proofs.Ytnkkiepoljbhlaa
