/-
  ShareOrders' law.
-/
import Derived.Test.YtcgaekaollhmpaaTd
import Derived.Deep.RegionHeld3
namespace Go.Proofs.Ytcgaekaollhmpaa
open Go.RowKit Go.Maps

set_option maxHeartbeats 4000000 in
set_option maxRecDepth 100000 in
theorem orders_law (all : Vs.V) (q : Option Addr) (n c : Nat) (L : List U) (w : World) (hn : n = L.length) (hr : UArg w q L) (hm : n ≤ 9223372036854775807) :
    Calls Try.prog 3 #[.agg #[.int .i64 all.a, .int .i64 all.b, .int .i64 all.c, .int .i64 all.d], .slice q n c] w fun e w' => e = .returned (.bool true) ∧ Below w.heap.size w w' := by
  have HA : Hid (∀ W, Calls Try.prog 7 #[] W fun e w' => e = .returned (.bool true) ∧ Hid (Below W.heap.size W w')) := awake_any
  have HR : Hid (UArg w q L ∧ n = L.length) := ⟨hr, hn⟩
  obtain ⟨l0, l1, l2, l3⟩ := all
  simp only []
  clear hr hn
  have B0 : Hid (Below w.heap.size w (w.alloc (.cells #[.int .i64 l0, .int .i64 l1, .int .i64 l2, .int .i64 l3] 23))) := (Below.refl _ w).alloc (Nat.le_refl _) _
  have N0 : Hid ((w.alloc (.cells #[.int .i64 l0, .int .i64 l1, .int .i64 l2, .int .i64 l3] 23)).heap[w.heap.size]? = some (.cells #[.int .i64 l0, .int .i64 l1, .int .i64 l2, .int .i64 l3] 23 (0, 0))) := new0
  by_cases h20 : 100 < n
  · clear HR N0
    go_enter Try.func3, Try.ntmps3
    go_upto_region 1 with fail
    generalize w.alloc (.cells #[.int .i64 l0, .int .i64 l1, .int .i64 l2, .int .i64 l3] 23) = W1 at *
    have g1 : (100 : Int) < (n : Int) := by omega
    have g3 : decide ((100 : Int) < (n : Int)) = true := decide_eq_true g1
    go_wp2_with (first
      | (go_at_call 7; have _ := b1; refine (HA.out _).mono ?_; rintro e w3 ⟨rfl, b3⟩)
      | (go_at_call 7; refine (HA.out _).mono ?_; rintro e w1 ⟨rfl, b1⟩))
    go_ret
    exact ⟨rfl, (B0.out.trans (b1.out.mono B0.out.size)).trans (b3.out.mono (Nat.le_trans B0.out.size b1.out.size))⟩
  have g20 : ¬ (100 : Int) < (n : Int) := by omega
  have g20' : decide ((100 : Int) < (n : Int)) = false := decide_eq_false g20
  have h100 : n ≤ 100 := by omega
  clear hm h20
  go_enter Try.func3, Try.ntmps3
  go_upto_region 1 with fail
  obtain ⟨bw, hbw⟩ : ∃ bw, bw = w.heap.size := ⟨_, rfl⟩
  rw [← hbw] at N0 ⊢
  clear hbw
  generalize w.alloc (.cells #[.int .i64 l0, .int .i64 l1, .int .i64 l2, .int .i64 l3] 23) = W1 at *
  go_upto_region 3 with (go_at_call 7; refine (HA.out _).mono ?_; rintro e w1 ⟨rfl, b1⟩)
  have HB1 : Hid (Below w.heap.size w w1) := B0.out.trans (b1.out.mono B0.out.size)
  have HN1 : Hid (w1.heap[bw]? = some (.cells #[.int .i64 l0, .int .i64 l1, .int .i64 l2, .int .i64 l3] 23 (0, 0))) := at_below b1.out (Nat.le_refl _) N0.out
  clear b1 N0 B0 HA
  have H8a : Hid (Calls Try.prog 8 #[.agg #[.int .i64 l0, .int .i64 l1, .int .i64 l2, .int .i64 l3], .slice q n c] w1 (OrdP w1 ⟨l0, l1, l2, l3⟩ L)) := order_any ⟨l0, l1, l2, l3⟩ _ n c L w1 HR.out.2 (HR.out.1.below HB1.out) (by omega)
  obtain ⟨d0, d1, d2, d3⟩ := c4b HN1.out
  go_upto_region 4 with (go_at_call 8; refine H8a.out.mono ?_; rintro e w2 ⟨pa, ma, ca, ea, Ra, rfl, hma, h2⟩)
  obtain ⟨o2', s2', b2⟩ := h2.out
  have O2 : Hid (OrdR ⟨l0, l1, l2, l3⟩ L ea Ra ∧ SR w1.heap.size w2 (.slice pa ma ca) (Ra.map Tn.nm) ∧ Below w.heap.size w w2) := ⟨o2', s2', HB1.out.trans (b2.mono HB1.out.size)⟩
  have HN2 : Hid (w2.heap[bw]? = some (.cells #[.int .i64 l0, .int .i64 l1, .int .i64 l2, .int .i64 l3] 23 (0, 0))) := at_below b2 (Nat.le_refl _) HN1.out
  clear d0 d1 d2 d3 h2 o2' s2' b2 H8a HB1 HN1
  have KC : Hid (∀ W, Below w2.heap.size w2 W → W.cell? ⟨bw, 0, none⟩ = some (.int .i64 l0) ∧ W.cell? ⟨bw, 1, none⟩ = some (.int .i64 l1) ∧ W.cell? ⟨bw, 2, none⟩ = some (.int .i64 l2) ∧ W.cell? ⟨bw, 3, none⟩ = some (.int .i64 l3)) := fun W b => c4b (at_below b (Nat.le_refl _) HN2.out)
  have H10 : Hid (∀ W, Below w2.heap.size w2 W → Calls Try.prog 10 #[.slice q n c] W fun e w' => ∃ p c', e = .returned (.slice p n c') ∧ Hid (Below w2.heap.size w2 w' ∧ UArg w' p L)) := fun W b => by
    have bw' := O2.out.2.2.trans (b.mono O2.out.2.2.size)
    refine (plain_raw W q n c L HR.out.2.symm (by omega) (HR.out.1.below bw')).mono ?_
    rintro e w' ⟨p, c', rfl, h⟩
    exact ⟨p, c', rfl, b.trans (h.out.2.mono b.size), uarg_ru h.out.1 HR.out.1.s⟩
  have H9 : Hid (∀ W p c', Below w2.heap.size w2 W ∧ UArg W p L → Calls Try.prog 9 #[.agg #[.int .i64 l0, .int .i64 l1, .int .i64 l2, .int .i64 l3], .slice p n c'] W fun e w' => ∃ pb cb, e = .returned (.tuple #[.slice pb ma cb, .int .i64 ea]) ∧ Hid (Below w2.heap.size w2 w' ∧ ∃ b, SR b w' (.slice pb ma cb) (Ra.map Tn.nm))) := fun W p c' h => by
    refine (rorder_any ⟨l0, l1, l2, l3⟩ p n c' L W HR.out.2 h.2 (by omega)).mono ?_
    rintro e w' ⟨pb, mb, cb, eb, Rb, rfl, hmb, h5⟩
    obtain ⟨o5, s5, b5⟩ := h5.out
    obtain ⟨x1, x2⟩ := O2.out.1.uniq o5
    subst x1 x2
    obtain rfl : mb = ma := by rw [s5.len, O2.out.2.1.len]
    exact ⟨pb, cb, rfl, h.1.trans (b5.mono h.1.size), _, s5⟩
  have HD : Hid (Below w2.heap.size w2 w2.drew) := (Below.refl _ w2).drew
  have zz := KC.out w2 (Below.refl _ _)
  have zd := KC.out w2.drew HD.out
  go_region_held3 (fun W : World => W.cell? ⟨bw, 0, none⟩ = some (.int .i64 l0) ∧ W.cell? ⟨bw, 1, none⟩ = some (.int .i64 l1) ∧ W.cell? ⟨bw, 2, none⟩ = some (.int .i64 l2) ∧ W.cell? ⟨bw, 3, none⟩ = some (.int .i64 l3)) (first | (with_reducible assumption) | (exact zd) | (exact zz) | go_keep) (first
    | (go_at_call 10; refine (H10.out _ HD.out).mono ?_; rintro e w4 ⟨p4, c4, rfl, h4⟩; have zz := KC.out _ h4.out.1)
    | (go_at_call 9; refine (H9.out _ _ _ h4.out).mono ?_; rintro e w5 ⟨pb, cb, rfl, h5⟩; have zz := KC.out _ h5.out.1))
  all_goals obtain ⟨b5, base5, s5⟩ := h5.out
  all_goals have H11 : Hid (Calls Try.prog 11 #[.slice pa ma ca, .slice pb ma cb] w5 fun e w' => e = .returned (.bool true) ∧ Hid (Below w5.heap.size w5 w')) := rsame_raw w5 ma ca cb _ _ pa pb _ (O2.out.2.1.below b5) s5 (by omega)
  all_goals have HF : Hid (Below w.heap.size w w5) := O2.out.2.2.trans (b5.mono O2.out.2.2.size)
  all_goals clear zz zd h4 h5 s5 b5 H9 H10 KC O2 HN2 HR HD
  all_goals go_wp2_with (go_at_call 11; refine H11.out.mono ?_; rintro e w6 ⟨rfl, b6⟩)
  all_goals go_ret
  all_goals exact ⟨by simp, HF.out.trans (b6.out.mono HF.out.size)⟩
end Go.Proofs.Ytcgaekaollhmpaa
