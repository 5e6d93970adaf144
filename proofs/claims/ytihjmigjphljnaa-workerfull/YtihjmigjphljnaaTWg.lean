/-
  heap.up over a clock.
-/
import Derived.Test.YtihjmigjphljnaaTWf
namespace Go.Proofs.Ytihjmigjphljnaa.Tk
open Go.RowKit Go.Maps Go.WideMaps

/-- the same alarms, those from n on where they were -/
structure Mv (w0 w : World) (cb : Nat) (S : HS) (n : Nat) (l : List Al) : Prop where
  m : Mem w cb (S.wl l)
  c : Chg cb S (S.wl l) w0 w
  p : l.Perm S.l
  f : ∀ k, n ≤ k → gt l k = gt S.l k
section
variable {w0 w w' w1 w2 : World} {cb n i j : Nat} {S S' S1 S2 : HS} {l : List Al}
theorem Mv.len (h : Mv w0 w cb S n l) : l.length = S.l.length := h.p.length_eq
theorem Mv.below (h : Mv w0 w cb S n l) (b : Below w.heap.size w w') : Mv w0 w' cb S n l := ⟨h.m.below b, h.c.trans (Chg.of_below b), h.p, h.f⟩
theorem Mv.less (h : Mv w0 w cb S n l) (hn : n ≤ S.l.length) (hi : i < n) (hj : j < n) :
    Calls Try.prog 93 #[.agg #[.pointer (some ⟨cb, 1, none⟩)], .int .i64 i, .int .i64 j] w fun e w' => e = .returned (.bool (ltB (gt l i) (gt l j))) ∧ Below w.heap.size w w' :=
  less_S (S := S.wl l) h.m (by show i < l.length; rw [h.len]; omega) (by show j < l.length; rw [h.len]; omega)
theorem Mv.swap (h : Mv w0 w cb S n l) (hn : n ≤ S.l.length) (hi : i < n) (hj : j < n) :
    Calls Try.prog 96 #[.agg #[.pointer (some ⟨cb, 1, none⟩)], .int .i64 i, .int .i64 j] w fun e w' => e = .returned (.tuple #[]) ∧ Mv w0 w' cb S n (lsw l i j) := by
  have hil : i < l.length := by rw [h.len]; omega
  have hjl : j < l.length := by rw [h.len]; omega
  refine (swap_S (S := S.wl l) h.m hil hjl).mono ?_
  rintro e w' ⟨rfl, q1, q2⟩
  refine ⟨rfl, q1, h.c.trans q2, (lsw_perm hil hjl).trans h.p, fun k hk => ?_⟩
  rw [gt_lsw hil hjl, sw_o _ (by omega) (by omega)]
  exact h.f k hk
end
/-- while one rises -/
structure Ri (w0 w : World) (cb : Nat) (S : HS) (n j : Nat) (l : List Al) : Prop where
  v : Mv w0 w cb S n l
  x : Hx (gt l) n j
  h : Ch (gt l) n j
  j : j < n
  n : n ≤ S.l.length
def Up (w0 w : World) (cb : Nat) (S : HS) (n : Nat) : Prop := ∃ l, Mv w0 w cb S n l ∧ Hp (gt l) n
theorem nilLess (fuel : Nat) (cb : Nat) (w : World) : (nilAhead (fuel + 1) 100 (.agg #[.pointer (some ⟨cb, 1, none⟩)]) "Less").run Try.prog w = .ok (some false) w := by kernel_rfl
theorem methLess (fuel : Nat) (cb : Nat) (w : World) : (method (fuel + 1) 100 (.agg #[.pointer (some ⟨cb, 1, none⟩)]) "Less").run Try.prog w = .ok (93, .agg #[.pointer (some ⟨cb, 1, none⟩)]) w := by kernel_rfl
theorem nilSwap (fuel : Nat) (cb : Nat) (w : World) : (nilAhead (fuel + 1) 100 (.agg #[.pointer (some ⟨cb, 1, none⟩)]) "Swap").run Try.prog w = .ok (some false) w := by kernel_rfl
theorem methSwap (fuel : Nat) (cb : Nat) (w : World) : (method (fuel + 1) 100 (.agg #[.pointer (some ⟨cb, 1, none⟩)]) "Swap").run Try.prog w = .ok (96, .agg #[.pointer (some ⟨cb, 1, none⟩)]) w := by kernel_rfl
theorem nilLen (fuel : Nat) (cb : Nat) (w : World) : (nilAhead (fuel + 1) 100 (.agg #[.pointer (some ⟨cb, 1, none⟩)]) "Len").run Try.prog w = .ok (some false) w := by kernel_rfl
theorem methLen (fuel : Nat) (cb : Nat) (w : World) : (method (fuel + 1) 100 (.agg #[.pointer (some ⟨cb, 1, none⟩)]) "Len").run Try.prog w = .ok (46, .pointer (some ⟨cb, 1, none⟩)) w := by kernel_rfl
theorem nilPush (fuel : Nat) (cb : Nat) (w : World) : (nilAhead (fuel + 1) 100 (.agg #[.pointer (some ⟨cb, 1, none⟩)]) "Push").run Try.prog w = .ok (some false) w := by kernel_rfl
theorem methPush (fuel : Nat) (cb : Nat) (w : World) : (method (fuel + 1) 100 (.agg #[.pointer (some ⟨cb, 1, none⟩)]) "Push").run Try.prog w = .ok (95, .agg #[.pointer (some ⟨cb, 1, none⟩)]) w := by kernel_rfl
theorem nilPop (fuel : Nat) (cb : Nat) (w : World) : (nilAhead (fuel + 1) 100 (.agg #[.pointer (some ⟨cb, 1, none⟩)]) "Pop").run Try.prog w = .ok (some false) w := by kernel_rfl
theorem methPop (fuel : Nat) (cb : Nat) (w : World) : (method (fuel + 1) 100 (.agg #[.pointer (some ⟨cb, 1, none⟩)]) "Pop").run Try.prog w = .ok (94, .agg #[.pointer (some ⟨cb, 1, none⟩)]) w := by kernel_rfl
set_option maxHeartbeats 1000000 in
set_option maxRecDepth 100000 in
theorem up_S {w0 w : World} {cb n j : Nat} {S : HS} {l : List Al} (h : Hid (Ri w0 w cb S n j l)) :
    Calls Try.prog 69 #[.iface 100 (.agg #[.pointer (some ⟨cb, 1, none⟩)]), .int .i64 j] w fun e w' => e = .returned (.tuple #[]) ∧ Up w0 w' cb S n := by
  have HM : Hid (S.l.length ≤ 1024) := by have q1 := h.out.v.m.sm; have q2 := h.out.v.len; rw [show (S.wl l).l = l from rfl] at q1; unfold Hid; omega
  have HN : Hid (n ≤ S.l.length) := h.out.n
  go_enter Try.func69, Try.ntmps69
  go_wp2_with fail
  go_loopw [1] (fun t wr => ∃ j l', t = .int .i64 (j : Nat) ∧ Hid (Ri w0 wr cb S n j l')) (fun t _ => (intOf t).toNat)
  case atStart => exact ⟨j, l, rfl, h.out⟩
  case round =>
    clear h
    obtain ⟨j, l', rfl, HS⟩ := hrel
    by_cases hj : j = 0
    · subst hj
      have HR : Hid (Up w0 wr cb S n) := ⟨l', HS.out.v, hp_of HS.out.x HS.out.h fun q => by omega⟩
      go_wp2_with fail
      go_end0
      exact ⟨rfl, HR.out⟩
    · have hdiv : ((j : Int) - 1) / 2 = (par j : Int) := by unfold par; omega
      have hdi2 : ((j : Int) - 1).tdiv 2 = (par j : Int) := by rw [Int.tdiv_eq_ediv_of_nonneg (by omega)]; exact hdiv
      have hj1 : (1 : Int) ≤ j := by omega
      have hjl : (j : Int) < 1024 := by have := HS.out.j; have := HM.out; have := HN.out; omega
      have hpj : Hid (par j < j ∧ j < n) := ⟨by unfold par; omega, HS.out.j⟩
      have HL : Hid (Calls Try.prog 93 #[.agg #[.pointer (some ⟨cb, 1, none⟩)], .int .i64 j, .int .i64 (par j)] wr fun e w' => e = .returned (.bool (ltB (gt l' j) (gt l' (par j)))) ∧ Below wr.heap.size wr w') := HS.out.v.less HN.out HS.out.j (by have := hpj.out; omega)
      have ho : ¬ (par j : Int) = (j : Int) := by have := hpj.out; omega
      have ho' : ((par j : Int) == (j : Int)) = false := by simpa using ho
      cases hB : ltB (gt l' j) (gt l' (par j)) with
      | false =>
        rw [hB] at HL
        have HR : Hid (∀ W, Below wr.heap.size wr W → Up w0 W cb S n) := fun W b => ⟨l', HS.out.v.below b, hp_of HS.out.x HS.out.h fun _ => hB⟩
        clear hB hj
        go_wp2_with (go_at_call 93; refine HL.out.mono ?_; first | rintro e w1 rfl b1 | rintro e w1 ⟨rfl, b1⟩)
        go_end0
        exact ⟨rfl, HR.out _ b1⟩
      | true =>
        rw [hB] at HL
        have HX : Hid (∀ W, Below wr.heap.size wr W → Calls Try.prog 96 #[.agg #[.pointer (some ⟨cb, 1, none⟩)], .int .i64 (par j), .int .i64 j] W fun e w' => e = .returned (.tuple #[]) ∧ Hid (∃ l', Ri w0 w' cb S n (par j) l')) := fun W b => by
          refine ((HS.out.v.below b).swap HN.out (i := par j) (j := j) (by have := hpj.out; omega) hpj.out.2).mono ?_
          rintro e w' ⟨rfl, q⟩
          have hl := HS.out.v.len
          have hn := HN.out
          have hq := hpj.out
          obtain ⟨u1, u2⟩ := up_step HS.out.x HS.out.h (by omega) HS.out.j hB
          rw [← gt_lsw (by omega) (by omega)] at u1 u2
          exact ⟨rfl, _, q, u1, u2, by omega, hn⟩
        clear hB hj
        go_wp2_with (first | (go_at_call 93; refine HL.out.mono ?_; first | rintro e w1 rfl b1 | rintro e w1 ⟨rfl, b1⟩) | (go_at_call 96; refine (HX.out _ b1).mono ?_; first | rintro e w2 rfl h2 | rintro e w2 ⟨rfl, h2⟩))
        refine ⟨?_, by have := hpj.out; simp [intOf]; omega⟩
        obtain ⟨l2, h3⟩ := h2.out
        exact ⟨par j, l2, rfl, h3⟩
end Go.Proofs.Ytihjmigjphljnaa.Tk
