/-
  heap.down over a clock.
-/
import Derived.Test.YtihjmigjphljnaaTWg
namespace Go.Proofs.Ytihjmigjphljnaa.Tk
open Go.RowKit Go.Maps Go.WideMaps

/-- while one sinks -/
structure Si (w0 w : World) (cb : Nat) (S : HS) (n i0 i : Nat) (l : List Al) : Prop where
  v : Mv w0 w cb S n l
  x : Hx (gt l) n i
  hi : i < n
  hn : n ≤ S.l.length
  e : i = i0 ∨ (i0 < i ∧ Ed (gt l) i)
def Dp (w0 w : World) (cb : Nat) (S : HS) (n i0 : Nat) (b : Bool) : Prop := if b then Up w0 w cb S n else ∃ l, Ri w0 w cb S n i0 l
theorem Si.done {w0 w w' : World} {cb n i0 i : Nat} {S : HS} {l : List Al} (h : Si w0 w cb S n i0 i l) (c : Ch (gt l) n i) (b : Below w.heap.size w w') : Dp w0 w' cb S n i0 (decide (i0 < i)) := by
  unfold Dp
  rcases h.e with q | ⟨q1, q2⟩
  · subst q
    rw [decide_eq_false (by omega)]
    exact ⟨l, h.v.below b, h.x, c, h.hi, h.hn⟩
  · rw [decide_eq_true (by omega)]
    exact ⟨l, h.v.below b, hp_of h.x c q2⟩
theorem kids {i c : Nat} (h : 0 < c) (e : par c = i) : c = 2 * i + 1 ∨ c = 2 * i + 2 := by unfold par at e; omega
theorem Si.go {w0 w w' : World} {cb n i0 i j : Nat} {S : HS} {l : List Al} (h : Si w0 w cb S n i0 i l) (b : Below w.heap.size w w') (h0 : 0 < j) (h1 : j < n) (h2 : par j = i) (h3 : ∀ c, 0 < c → c < n → par c = i → le (gt l j) (gt l c)) (hB : ltB (gt l j) (gt l i) = true) :
    Calls Try.prog 96 #[.agg #[.pointer (some ⟨cb, 1, none⟩)], .int .i64 i, .int .i64 j] w' fun e w' => e = .returned (.tuple #[]) ∧ Hid (∃ l', Si w0 w' cb S n i0 j l') := by
  refine ((h.v.below b).swap h.hn h.hi h1).mono ?_
  rintro e w2 ⟨rfl, q⟩
  have hl := h.v.len
  have hn := h.hn
  have hi := h.hi
  obtain ⟨u1, u2⟩ := down_step h.x h0 h1 h2 hB h3
  rw [← gt_lsw (by omega) (by omega)] at u1 u2
  have hij : i < j := by unfold par at h2; omega
  exact ⟨rfl, _, q, u1, h1, hn, .inr ⟨by rcases h.e with q | ⟨q, _⟩ <;> omega, u2⟩⟩
set_option maxHeartbeats 2000000 in
set_option maxRecDepth 100000 in
theorem down_S {w0 w : World} {cb n i0 : Nat} {S : HS} {l : List Al} (h : Hid (Si w0 w cb S n i0 i0 l)) :
    Calls Try.prog 68 #[.iface 100 (.agg #[.pointer (some ⟨cb, 1, none⟩)]), .int .i64 i0, .int .i64 n] w fun e w' => ∃ b, e = .returned (.bool b) ∧ Dp w0 w' cb S n i0 b := by
  have HM : Hid (S.l.length ≤ 1024) := by have q1 := h.out.v.m.sm; have q2 := h.out.v.len; rw [show (S.wl l).l = l from rfl] at q1; unfold Hid; omega
  have HN : Hid (n ≤ S.l.length) := h.out.hn
  go_enter Try.func68, Try.ntmps68
  go_wp2_with fail
  go_loopw [7] (fun t wr => ∃ i l', t = .int .i64 (i : Nat) ∧ Hid (Si w0 wr cb S n i0 i l')) (fun t _ => n - (intOf t).toNat)
  case atStart => exact ⟨i0, l, rfl, h.out⟩
  case round =>
    clear h
    obtain ⟨i, l', rfl, HS⟩ := hrel
    have hin : (i : Int) < n := by have := HS.out.hi; omega
    have hnl : (n : Int) ≤ 1024 := by have := HM.out; have := HN.out; omega
    by_cases hc : n ≤ 2 * i + 1
    · have hc' : (n : Int) ≤ 2 * i + 1 := by omega
      have HR : Hid (Dp w0 wr cb S n i0 (decide (i0 < i))) := HS.out.done (fun c c0 c1 c2 => by rcases kids c0 c2 with q | q <;> omega) (Below.refl _ _)
      go_wp2_with fail
      go_ret
      exact ⟨_, rfl, HR.out⟩
    · obtain ⟨a, ha⟩ : ∃ a : Nat, a = 2 * i + 1 := ⟨_, rfl⟩
      have ha' : 2 * (i : Int) + 1 = (a : Int) := by omega
      have han : (a : Int) < n := by omega
      have han' : ¬ (n : Int) ≤ a := by omega
      have ha0 : 0 ≤ (a : Int) := by omega
      obtain ⟨b, hb0⟩ : ∃ b : Nat, b = a + 1 := ⟨_, rfl⟩
      have hb' : (a : Int) + 1 = (b : Int) := by omega
      have hb1 : (b : Int) ≤ 1024 := by omega
      have hb2 : 0 ≤ (b : Int) := by omega
      have HA : Hid (a = 2 * i + 1 ∧ a < n ∧ i < n) := ⟨ha, by omega, HS.out.hi⟩
      have HAB : Hid (b = a + 1) := hb0
      have HL0 : Hid (∀ W, Below wr.heap.size wr W → Calls Try.prog 93 #[.agg #[.pointer (some ⟨cb, 1, none⟩)], .int .i64 a, .int .i64 i] W fun e w' => e = .returned (.bool (ltB (gt l' a) (gt l' i))) ∧ Below W.heap.size W w') := fun W b => (HS.out.v.below b).less HN.out HA.out.2.1 HA.out.2.2
      have hbb : n ≤ a + 1 ↔ n ≤ b := by omega
      clear ha hc hb0
      clear hbb
      by_cases hb : n ≤ b
      · have hbn : ¬ (b : Int) < n := by omega
        have hk : Hid (∀ c, 0 < c → c < n → par c = i → le (gt l' a) (gt l' c)) := fun c c0 c1 c2 => by
          have := HA.out
          have := HAB.out
          rcases kids c0 c2 with q | q
          · rw [show c = a by omega]; exact le_refl _
          · omega
        clear hb
        have HLx : Hid (∀ W, Below wr.heap.size wr W → Calls Try.prog 93 #[.agg #[.pointer (some ⟨cb, 1, none⟩)], .int .i64 a, .int .i64 i] W fun e w' => e = .returned (.bool (ltB (gt l' a) (gt l' i))) ∧ Below W.heap.size W w') := HL0.out
        cases hB2 : ltB (gt l' a) (gt l' i) with
        | false =>
          rw [hB2] at HLx
          have HR : Hid (∀ W, Below wr.heap.size wr W → Dp w0 W cb S n i0 (decide (i0 < i))) := fun W b => HS.out.done (fun c c0 c1 c2 => le_trans hB2 (hk.out c c0 c1 c2)) b
          clear hB2 HL0
          go_wp2_with (go_at_call 93; refine (HLx.out _ (Below.refl _ _)).mono ?_; first | rintro e w2 rfl b2 | rintro e w2 ⟨rfl, b2⟩)
          go_ret
          exact ⟨_, rfl, HR.out _ b2⟩
        | true =>
          rw [hB2] at HLx
          have HX : Hid (∀ W, Below wr.heap.size wr W → Calls Try.prog 96 #[.agg #[.pointer (some ⟨cb, 1, none⟩)], .int .i64 i, .int .i64 a] W fun e w' => e = .returned (.tuple #[]) ∧ Hid (∃ l', Si w0 w' cb S n i0 a l')) := fun W b => HS.out.go b (by have := HA.out; have := HAB.out; omega) (by have := HA.out; have := HAB.out; omega) (by have := HA.out; have := HAB.out; unfold par; omega) hk.out hB2
          clear hB2 HL0
          go_wp2_with (first | (go_at_call 93; refine (HLx.out _ (Below.refl _ _)).mono ?_; first | rintro e w2 rfl b2 | rintro e w2 ⟨rfl, b2⟩) | (go_at_call 96; refine (HX.out _ b2).mono ?_; first | rintro e w3 rfl h2 | rintro e w3 ⟨rfl, h2⟩))
          refine ⟨?_, by have := HA.out; have := HAB.out; simp [intOf]; omega⟩
          obtain ⟨l2, h3⟩ := h2.out
          exact ⟨a, l2, rfl, h3⟩
      · have hbn : (b : Int) < n := by omega
        have HL1 : Hid (Calls Try.prog 93 #[.agg #[.pointer (some ⟨cb, 1, none⟩)], .int .i64 b, .int .i64 a] wr fun e w' => e = .returned (.bool (ltB (gt l' b) (gt l' a))) ∧ Below wr.heap.size wr w') := HS.out.v.less HN.out (by have := HA.out; have := HAB.out; omega) HA.out.2.1
        have HL2 : Hid (∀ W, Below wr.heap.size wr W → Calls Try.prog 93 #[.agg #[.pointer (some ⟨cb, 1, none⟩)], .int .i64 b, .int .i64 i] W fun e w' => e = .returned (.bool (ltB (gt l' b) (gt l' i))) ∧ Below W.heap.size W w') := fun W b => (HS.out.v.below b).less HN.out (by have := HA.out; have := HAB.out; omega) HA.out.2.2
        have HA2 : Hid (b < n) := show b < n by omega
        clear hb
        cases hB1 : ltB (gt l' b) (gt l' a) with
        | false =>
          rw [hB1] at HL1
          have hk : Hid (∀ c, 0 < c → c < n → par c = i → le (gt l' a) (gt l' c)) := fun c c0 c1 c2 => by
            have := HA.out
            have := HAB.out
            rcases kids c0 c2 with q | q
            · rw [show c = a by omega]; exact le_refl _
            · rw [show c = b by have := HAB.out; omega]; exact hB1
          clear hB1
          have HLx : Hid (∀ W, Below wr.heap.size wr W → Calls Try.prog 93 #[.agg #[.pointer (some ⟨cb, 1, none⟩)], .int .i64 a, .int .i64 i] W fun e w' => e = .returned (.bool (ltB (gt l' a) (gt l' i))) ∧ Below W.heap.size W w') := HL0.out
          cases hB2 : ltB (gt l' a) (gt l' i) with
          | false =>
            rw [hB2] at HLx
            have HR : Hid (∀ W, Below wr.heap.size wr W → Dp w0 W cb S n i0 (decide (i0 < i))) := fun W b => HS.out.done (fun c c0 c1 c2 => le_trans hB2 (hk.out c c0 c1 c2)) b
            clear hB2 HL0 HL2
            go_upto_region 8 with (go_at_call 93; refine HL1.out.mono ?_; first | rintro e w1 rfl b0 | rintro e w1 ⟨rfl, b0⟩)
            go_wp2_with (go_at_call 93; refine (HLx.out _ b0).mono ?_; first | rintro e w2 rfl b2 | rintro e w2 ⟨rfl, b2⟩)
            go_ret
            exact ⟨_, rfl, HR.out _ (b0.trans (b2.mono b0.size))⟩
          | true =>
            rw [hB2] at HLx
            have HX : Hid (∀ W, Below wr.heap.size wr W → Calls Try.prog 96 #[.agg #[.pointer (some ⟨cb, 1, none⟩)], .int .i64 i, .int .i64 a] W fun e w' => e = .returned (.tuple #[]) ∧ Hid (∃ l', Si w0 w' cb S n i0 a l')) := fun W b => HS.out.go b (by have := HA.out; have := HAB.out; omega) (by have := HA.out; have := HAB.out; have := HA2.out; omega) (by have := HA.out; have := HAB.out; unfold par; omega) hk.out hB2
            clear hB2 HL0 HL2
            go_upto_region 8 with (go_at_call 93; refine HL1.out.mono ?_; first | rintro e w1 rfl b0 | rintro e w1 ⟨rfl, b0⟩)
            go_wp2_with (first | (go_at_call 93; refine (HLx.out _ b0).mono ?_; first | rintro e w2 rfl b2 | rintro e w2 ⟨rfl, b2⟩) | (go_at_call 96; refine (HX.out _ (b0.trans (b2.mono b0.size))).mono ?_; first | rintro e w3 rfl h2 | rintro e w3 ⟨rfl, h2⟩))
            refine ⟨?_, by have := HA.out; have := HAB.out; have := HA2.out; simp [intOf]; omega⟩
            obtain ⟨l2, h3⟩ := h2.out
            exact ⟨a, l2, rfl, h3⟩
        | true =>
          rw [hB1] at HL1
          have hk : Hid (∀ c, 0 < c → c < n → par c = i → le (gt l' b) (gt l' c)) := fun c c0 c1 c2 => by
            have := HA.out
            have := HAB.out
            rcases kids c0 c2 with q | q
            · rw [show c = a by omega]; exact lt_le hB1
            · rw [show c = b by have := HAB.out; omega]; exact le_refl _
          clear hB1
          have HLx : Hid (∀ W, Below wr.heap.size wr W → Calls Try.prog 93 #[.agg #[.pointer (some ⟨cb, 1, none⟩)], .int .i64 b, .int .i64 i] W fun e w' => e = .returned (.bool (ltB (gt l' b) (gt l' i))) ∧ Below W.heap.size W w') := HL2.out
          cases hB2 : ltB (gt l' b) (gt l' i) with
          | false =>
            rw [hB2] at HLx
            have HR : Hid (∀ W, Below wr.heap.size wr W → Dp w0 W cb S n i0 (decide (i0 < i))) := fun W b => HS.out.done (fun c c0 c1 c2 => le_trans hB2 (hk.out c c0 c1 c2)) b
            clear hB2 HL0 HL2
            go_upto_region 8 with (go_at_call 93; refine HL1.out.mono ?_; first | rintro e w1 rfl b0 | rintro e w1 ⟨rfl, b0⟩)
            go_wp2_with (go_at_call 93; refine (HLx.out _ b0).mono ?_; first | rintro e w2 rfl b2 | rintro e w2 ⟨rfl, b2⟩)
            go_ret
            exact ⟨_, rfl, HR.out _ (b0.trans (b2.mono b0.size))⟩
          | true =>
            rw [hB2] at HLx
            have HX : Hid (∀ W, Below wr.heap.size wr W → Calls Try.prog 96 #[.agg #[.pointer (some ⟨cb, 1, none⟩)], .int .i64 i, .int .i64 b] W fun e w' => e = .returned (.tuple #[]) ∧ Hid (∃ l', Si w0 w' cb S n i0 b l')) := fun W b => HS.out.go b (by have := HA.out; have := HAB.out; omega) (by have := HA.out; have := HAB.out; have := HA2.out; omega) (by have := HA.out; have := HAB.out; unfold par; omega) hk.out hB2
            clear hB2 HL0 HL2
            go_upto_region 8 with (go_at_call 93; refine HL1.out.mono ?_; first | rintro e w1 rfl b0 | rintro e w1 ⟨rfl, b0⟩)
            go_wp2_with (first | (go_at_call 93; refine (HLx.out _ b0).mono ?_; first | rintro e w2 rfl b2 | rintro e w2 ⟨rfl, b2⟩) | (go_at_call 96; refine (HX.out _ (b0.trans (b2.mono b0.size))).mono ?_; first | rintro e w3 rfl h2 | rintro e w3 ⟨rfl, h2⟩))
            refine ⟨?_, by have := HA.out; have := HAB.out; have := HA2.out; simp [intOf]; omega⟩
            obtain ⟨l2, h3⟩ := h2.out
            exact ⟨b, l2, rfl, h3⟩
end Go.Proofs.Ytihjmigjphljnaa.Tk
