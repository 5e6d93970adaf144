/-
  ShareMoves' law.
-/
import Derived.Test.YtcgaekaollhmpaaSn
import Derived.Deep.RegionHeld3
namespace Go.Proofs.Ytcgaekaollhmpaa
open Go.RowKit Go.Maps

set_option maxHeartbeats 4000000 in
set_option maxRecDepth 100000 in
theorem moves_law (all : Vs.V) (q : Option Addr) (n c : Nat) (L : List U) (mo : Vs.V) (w : World) (hn : n = L.length) (hr : UArg w q L) (hm : n ≤ 9223372036854775807) (hc : n ≤ c) :
    Calls Try.prog 5 #[.agg #[.int .i64 all.a, .int .i64 all.b, .int .i64 all.c, .int .i64 all.d],   .slice q n c, .agg #[.int .i64 mo.a, .int .i64 mo.b, .int .i64 mo.c, .int .i64 mo.d]] w fun e w' => e = .returned (.bool true) ∧ Below w.heap.size w w' := by
  have HA : Hid (∀ W, Calls Try.prog 7 #[] W fun e w' => e = .returned (.bool true) ∧ Hid (Below W.heap.size W w')) := awake_any
  have HR : Hid (UArg w q L ∧ n = L.length) := ⟨hr, hn⟩
  obtain ⟨l0, l1, l2, l3⟩ := all
  obtain ⟨o0, o1, o2, o3⟩ := mo
  simp only []
  clear hr hn
  have B0 : Hid (Below w.heap.size w ((w.alloc (.cells #[.int .i64 l0, .int .i64 l1, .int .i64 l2, .int .i64 l3] 23)).alloc (.cells #[.int .i64 o0, .int .i64 o1, .int .i64 o2, .int .i64 o3] 23))) := by
    have b1 : Below w.heap.size w (w.alloc (.cells #[.int .i64 l0, .int .i64 l1, .int .i64 l2, .int .i64 l3] 23)) := (Below.refl _ w).alloc (Nat.le_refl _) _
    exact b1.alloc b1.size _
  have N0 : Hid (((w.alloc (.cells #[.int .i64 l0, .int .i64 l1, .int .i64 l2, .int .i64 l3] 23)).alloc (.cells #[.int .i64 o0, .int .i64 o1, .int .i64 o2, .int .i64 o3] 23)).heap[w.heap.size]? = some (.cells #[.int .i64 l0, .int .i64 l1, .int .i64 l2, .int .i64 l3] 23 (0, 0)) ∧ ((w.alloc (.cells #[.int .i64 l0, .int .i64 l1, .int .i64 l2, .int .i64 l3] 23)).alloc (.cells #[.int .i64 o0, .int .i64 o1, .int .i64 o2, .int .i64 o3] 23)).heap[w.heap.size + 1]? = some (.cells #[.int .i64 o0, .int .i64 o1, .int .i64 o2, .int .i64 o3] 23 (0, 0))) := ⟨first0, first1⟩
  by_cases h20 : 100 < n ∨ n = 0
  · clear HR N0
    go_enter Try.func5, Try.ntmps5
    go_upto_region 1 with fail
    generalize (w.alloc (.cells #[.int .i64 l0, .int .i64 l1, .int .i64 l2, .int .i64 l3] 23)).alloc (.cells #[.int .i64 o0, .int .i64 o1, .int .i64 o2, .int .i64 o3] 23) = W1 at *
    rcases h20 with h20 | rfl
    · have g1 : (100 : Int) < (n : Int) := by omega
      have g3 : decide ((100 : Int) < (n : Int)) = true := decide_eq_true g1
      go_wp2_with (first
        | (go_at_call 7; have _ := b1; refine (HA.out _).mono ?_; rintro e w3 ⟨rfl, b3⟩)
        | (go_at_call 7; refine (HA.out _).mono ?_; rintro e w1 ⟨rfl, b1⟩))
      go_ret
      exact ⟨rfl, (B0.out.trans (b1.out.mono B0.out.size)).trans (b3.out.mono (Nat.le_trans B0.out.size b1.out.size))⟩
    · go_wp2_with (first
        | (go_at_call 7; have _ := b1; refine (HA.out _).mono ?_; rintro e w3 ⟨rfl, b3⟩)
        | (go_at_call 7; refine (HA.out _).mono ?_; rintro e w1 ⟨rfl, b1⟩))
      go_ret
      exact ⟨rfl, (B0.out.trans (b1.out.mono B0.out.size)).trans (b3.out.mono (Nat.le_trans B0.out.size b1.out.size))⟩
  have g20 : ¬ (100 : Int) < (n : Int) := by omega
  have g20' : decide ((100 : Int) < (n : Int)) = false := decide_eq_false g20
  have g21 : ((n : Int) == 0) = false := by simp; omega
  have g22 : ¬ (n : Int) = 0 := by omega
  have h100 : n ≤ 100 := by omega
  have hpos : 1 ≤ n := by omega
  clear hm h20
  obtain ⟨g, f, rfl⟩ : ∃ g f, q = some ⟨g, f, none⟩ := by
    obtain ⟨u, hu⟩ : ∃ u, L[0]? = some u := ⟨_, List.getElem?_eq_getElem (by have := HR.out.2; omega)⟩
    obtain ⟨g, f, e, _⟩ := HR.out.1.c 0 u hu
    exact ⟨g, f, e⟩
  go_enter Try.func5, Try.ntmps5
  go_upto_region 1 with fail
  obtain ⟨bm, hbm⟩ : ∃ bm, bm = w.heap.size + 1 := ⟨_, rfl⟩
  rw [← hbm] at N0 ⊢
  clear hbm
  obtain ⟨bw, hbw⟩ : ∃ bw, bw = w.heap.size := ⟨_, rfl⟩
  rw [← hbw] at N0 ⊢
  clear hbw
  generalize (w.alloc (.cells #[.int .i64 l0, .int .i64 l1, .int .i64 l2, .int .i64 l3] 23)).alloc (.cells #[.int .i64 o0, .int .i64 o1, .int .i64 o2, .int .i64 o3] 23) = W1 at *
  go_upto_region 3 with (go_at_call 7; refine (HA.out _).mono ?_; rintro e w1 ⟨rfl, b1⟩)
  have HB1 : Hid (Below w.heap.size w w1) := B0.out.trans (b1.out.mono B0.out.size)
  have HN1 : Hid (w1.heap[bw]? = some (.cells #[.int .i64 l0, .int .i64 l1, .int .i64 l2, .int .i64 l3] 23 (0, 0)) ∧ w1.heap[bm]? = some (.cells #[.int .i64 o0, .int .i64 o1, .int .i64 o2, .int .i64 o3] 23 (0, 0))) := ⟨at_below b1.out (Nat.le_refl _) N0.out.1, at_below b1.out (Nat.le_refl _) N0.out.2⟩
  clear b1 N0 B0 HA
  have H8a : Hid (Calls Try.prog 8 #[.agg #[.int .i64 l0, .int .i64 l1, .int .i64 l2, .int .i64 l3], .slice (some ⟨g, f, none⟩) n c] w1 (OrdP w1 ⟨l0, l1, l2, l3⟩ L)) := order_any ⟨l0, l1, l2, l3⟩ _ n c L w1 HR.out.2 (HR.out.1.below HB1.out) (by omega)
  obtain ⟨d0, d1, d2, d3⟩ := c4b HN1.out.1
  go_upto_region 4 with (go_at_call 8; refine H8a.out.mono ?_; rintro e w2 ⟨pa, ma, ca, ea, Ra, rfl, hma, h2⟩)
  obtain ⟨o2', s2', b2⟩ := h2.out
  have O2 : Hid (OrdR ⟨l0, l1, l2, l3⟩ L ea Ra ∧ SR w1.heap.size w2 (.slice pa ma ca) (Ra.map Tn.nm) ∧ Below w.heap.size w w2 ∧ ma = Ra.length) := ⟨o2', s2', HB1.out.trans (b2.mono HB1.out.size), by have := s2'.len; rwa [List.length_map] at this⟩
  have HN2 : Hid (w2.heap[bw]? = some (.cells #[.int .i64 l0, .int .i64 l1, .int .i64 l2, .int .i64 l3] 23 (0, 0)) ∧ w2.heap[bm]? = some (.cells #[.int .i64 o0, .int .i64 o1, .int .i64 o2, .int .i64 o3] 23 (0, 0))) := ⟨at_below b2 (Nat.le_refl _) HN1.out.1, at_below b2 (Nat.le_refl _) HN1.out.2⟩
  clear d0 d1 d2 d3 h2 o2' s2' b2 H8a HB1 HN1
  by_cases hea : ea = 0
  · obtain rfl := hea
    obtain ⟨u, r, rfl⟩ : ∃ u r, L = u :: r := by
      cases L with
      | nil => have := HR.out.2; simp at this; omega
      | cons u r => exact ⟨u, r, rfl⟩
    obtain ⟨i0, hi1, hi2, hi3⟩ := name_at O2.out.1 (List.mem_cons_self ..)
    have H12a : Hid (Calls Try.prog 12 #[.slice pa ma ca, .string ⟨⟨u.nm⟩⟩] w2 fun e w' => e = .returned (.int .i64 (i0 : Int)) ∧ w' = w2) := place_at w2 _ ma ca pa _ u.nm i0 O2.out.2.1 hi2 hi3 hma
    have HI0 : Hid (Ra[i0]? = some (ten ⟨l0, l1, l2, l3⟩ u)) := hi1
    have hi0 : i0 < ma := by have := (List.getElem?_eq_some_iff.1 hi1).1; have := O2.out.2.2.2; omega
    obtain ⟨g', f', e', x0, x1, x2, x3, x4, x5⟩ := (HR.out.1.below O2.out.2.2.1).c 0 u rfl
    cases e'
    simp only [Nat.zero_mul, Nat.add_zero] at x0 x1 x2 x3 x4 x5
    have V2 : Hid (RowV w2 g f ((u :: r).flatMap uC)) := by
      have := (HR.out.1.below O2.out.2.2.1).rowV 0 n
      rw [List.drop_zero, List.take_of_length_le (by have := HR.out.2; omega), show f + 0 * 6 = f by omega] at this
      exact this
    have e9 : Hid (0 + n ≤ maxLen) := by show _ ≤ _; unfold maxLen; omega
    have e8 : Hid ((0 + n) * 56 ≤ 140737488355328) := by show _ ≤ _; omega
    have hnl : Hid (n = (u :: r).length) := HR.out.2
    clear hi1 hi2 hi3
    obtain ⟨un, uw, ⟨ua, ub, uc, ud⟩⟩ := u
    simp only [] at x0 x1 x2 x3 x4 x5 H12a
    go_upto_region 9 with (go_at_call 12; refine H12a.out.mono ?_; rintro e w2' ⟨rfl, h2'⟩; obtain rfl := h2'.symm)
    clear h2' H12a
    go_upto_region 10 with (at_builtin; refine append_g (B := w2.heap.size) uC_len uC_one Try.underlying24 info37 rfl (by decide) rfl _ _ rfl none 0 0 [] rfl (GRow.nil _ _ _ _ _) (Nat.le_refl _) g f n c _ rfl hnl.out V2.out e9.out e8.out ?_; intro p3 c3 w3 hr3 hb3; rw [Nat.zero_add] at hr3)
    obtain ⟨go, rfl, -⟩ := hr3.at uC_len (i := 0) (o := ⟨un, uw, ⟨ua, ub, uc, ud⟩⟩) rfl
    obtain ⟨sv, se, hsum⟩ : ∃ sv se, Vs.addR ⟨ua, ub, uc, ud⟩ ⟨o0, o1, o2, o3⟩ = (sv, se) := ⟨_, _, rfl⟩
    have H13 : Hid (∀ W, Calls Try.prog 13 #[.agg #[.int .i64 ua, .int .i64 ub, .int .i64 uc, .int .i64 ud], .agg #[.int .i64 o0, .int .i64 o1, .int .i64 o2, .int .i64 o3]] W fun e w' => e = .returned (.tuple #[.agg #[.int .i64 sv.a, .int .i64 sv.b, .int .i64 sv.c, .int .i64 sv.d], .int .i64 se]) ∧ Hid (Below W.heap.size W w')) := fun W => by
      have := Vs.radd_any ua ub uc ud o0 o1 o2 o3 W
      rw [hsum] at this
      exact this
    have HSM : Hid (Vs.addR ⟨ua, ub, uc, ud⟩ ⟨o0, o1, o2, o3⟩ = (sv, se)) := hsum
    have HG3 : Hid (GRow 37 6 uC w2.heap.size w3 (.slice (some ⟨go, 0, none⟩) n c3) (⟨un, uw, ⟨ua, ub, uc, ud⟩⟩ :: r) ∧ Below w2.heap.size w2 w3) := ⟨hr3, hb3⟩
    clear hsum hr3 V2 e9 e8
    obtain ⟨v0, v1, v2, v3⟩ := sv
    simp only [] at H13
    have KC : Hid (∀ W, Below w3.heap.size w3 W → W.cell? ⟨g, f + 2, none⟩ = some (.int .i64 ua) ∧ W.cell? ⟨g, f + 2 + 1, none⟩ = some (.int .i64 ub) ∧ W.cell? ⟨g, f + 2 + 2, none⟩ = some (.int .i64 uc) ∧ W.cell? ⟨g, f + 2 + 3, none⟩ = some (.int .i64 ud) ∧ W.cell? ⟨bm, 0, none⟩ = some (.int .i64 o0) ∧ W.cell? ⟨bm, 1, none⟩ = some (.int .i64 o1) ∧ W.cell? ⟨bm, 2, none⟩ = some (.int .i64 o2) ∧ W.cell? ⟨bm, 3, none⟩ = some (.int .i64 o3)) := fun W b => by
      have b' := hb3.trans (b.mono hb3.size)
      obtain ⟨y0, y1, y2, y3⟩ := c4b HN2.out.2
      exact ⟨keep1c' b' x2, keep1c' b' x3, keep1c' b' x4, keep1c' b' x5, keep1c' b' y0, keep1c' b' y1, keep1c' b' y2, keep1c' b' y3⟩
    clear x0 x1 x2 x3 x4 x5 hb3
    have zz := KC.out w3 (Below.refl _ _)
    have zd := KC.out (w3.drewN 1) (below_drewN (Below.refl _ _) 1)
    have hg0 : 0 < n := by omega
    have nga := World.new_ne w3 _ zz.1
    have ngb := World.new_ne w3 _ zz.2.1
    have ngc := World.new_ne w3 _ zz.2.2.1
    have ngd := World.new_ne w3 _ zz.2.2.2.1
    have nge := World.new_ne w3 _ zz.2.2.2.2.1
    have ngf : ¬ g = w3.heap.size := by have := block_lt_of_cell zz.1; simp only [] at this; omega
    have ngg : ¬ bm = w3.heap.size := by have := block_lt_of_cell zz.2.2.2.2.1; simp only [] at this; omega
    have ngh : ¬ w3.heap.size = g := fun e => ngf e.symm
    have ngi : ¬ w3.heap.size = bm := fun e => ngg e.symm
    have HE : Hid (∀ W', Below (w3.alloc (.cells #[.int .i64 0, .int .i64 0, .int .i64 0, .int .i64 0] 23)).drew.heap.size (w3.alloc (.cells #[.int .i64 0, .int .i64 0, .int .i64 0, .int .i64 0] 23)).drew W' → Below w3.heap.size w3 W') := fun W' b => by
      have b1 : Below w3.heap.size w3 (w3.alloc (.cells #[.int .i64 0, .int .i64 0, .int .i64 0, .int .i64 0] 23)).drew := ((Below.refl _ w3).alloc (Nat.le_refl _) _).drew
      exact b1.trans (b.mono b1.size)
    have HNW : Hid (∀ W', Below (w3.alloc (.cells #[.int .i64 0, .int .i64 0, .int .i64 0, .int .i64 0] 23)).drew.heap.size (w3.alloc (.cells #[.int .i64 0, .int .i64 0, .int .i64 0, .int .i64 0] 23)).drew W' → W'.heap[w3.heap.size]? = some (.cells #[.int .i64 0, .int .i64 0, .int .i64 0, .int .i64 0] 23 (0, 0))) := fun W' b => at_below b (Nat.le_refl _) (at_drew new0)
    obtain ⟨mw, hmw⟩ : ∃ mw, mw = min (uw + 1) 1000 := ⟨_, rfl⟩
    have HER : Hid (er ⟨l0, l1, l2, l3⟩ ⟨un, uw, ⟨ua, ub, uc, ud⟩⟩ = 0) := by
      rcases O2.out.1 with ⟨_, e, _⟩ | ⟨_, _, e, _⟩ | e
      · exact absurd rfl e
      · cases e
      · exact fstE_zero.1 e.1 _ (List.mem_cons_self ..)
    have HWT : Hid (er ⟨l0, l1, l2, l3⟩ ⟨un, mw, ⟨ua, ub, uc, ud⟩⟩ = 0 ∧ ¬ rl (kT (ten ⟨l0, l1, l2, l3⟩ ⟨un, uw, ⟨ua, ub, uc, ud⟩⟩)) (kT (ten ⟨l0, l1, l2, l3⟩ ⟨un, mw, ⟨ua, ub, uc, ud⟩⟩))) := by rw [hmw]; exact weight_le HER.out
    have HSZ : Hid (∀ x : U, x.nm = un → ∀ y ∈ x :: r, y.nm.length ≤ 281474976710656) := fun x hx y hy => by
      rcases List.mem_cons.1 hy with rfl | hy
      · rw [hx]; exact HR.out.1.s _ (List.mem_cons_self ..)
      · exact HR.out.1.s _ (List.mem_cons_of_mem _ hy)
    have hw1 : IntKind.i64.wrap (uw + 1) = uw + 1 := by
      obtain ⟨-, -, q1, q2, -⟩ := sh_ok HER.out
      have q1' : 1 ≤ uw := q1
      have q2' : uw ≤ 1000 := q2
      simp [IntKind.wrap, IntKind.bits, IntKind.signed]
      omega
    have hw2 : min (uw + 1) 1000 = mw := hmw.symm
    clear hmw
    go_region_held3 (fun W : World => W.cell? ⟨g, f + 2, none⟩ = some (.int .i64 ua) ∧ W.cell? ⟨g, f + 2 + 1, none⟩ = some (.int .i64 ub) ∧ W.cell? ⟨g, f + 2 + 2, none⟩ = some (.int .i64 uc) ∧ W.cell? ⟨g, f + 2 + 3, none⟩ = some (.int .i64 ud) ∧ W.cell? ⟨bm, 0, none⟩ = some (.int .i64 o0) ∧ W.cell? ⟨bm, 1, none⟩ = some (.int .i64 o1) ∧ W.cell? ⟨bm, 2, none⟩ = some (.int .i64 o2) ∧ W.cell? ⟨bm, 3, none⟩ = some (.int .i64 o3)) (first | (with_reducible assumption) | (exact zd) | (exact zz) | go_keep) (first
      | (go_at_call 13; refine (H13.out _).mono ?_; rintro e w4 ⟨rfl, b4⟩; have b5 : Hid (Below w3.heap.size w3 w4) := (by first | exact ((Below.refl _ w3).drew).trans b4.out | exact HE.out _ b4.out); have zz := KC.out _ b5.out; try (have n4 := HNW.out _ b4.out; have c4 := c4b n4; have q0 := c4.1; have q1 := c4.2.1; have q2 := c4.2.2.1; have q3 := c4.2.2.2; have f0 := fz n4 0; have f1 := fz n4 1; have f2 := fz n4 2; have f3 := fz n4 3; have n5 : Hid (w4.heap[w3.heap.size]? = some (.cells #[.int .i64 0, .int .i64 0, .int .i64 0, .int .i64 0] 23 (0, 0))) := n4; clear c4 n4)))
    · obtain ⟨bs, hbs⟩ : ∃ bs, bs = w4.heap.size := ⟨_, rfl⟩
      obtain ⟨W5, hW5⟩ : ∃ W5, W5 = w4.alloc (.cells #[.int .i64 v0, .int .i64 v1, .int .i64 v2, .int .i64 v3] 23) := ⟨_, rfl⟩
      have K5 : Hid (W5.heap[bs]? = some (.cells #[.int .i64 v0, .int .i64 v1, .int .i64 v2, .int .i64 v3] 23 (0, 0)) ∧ Below w3.heap.size w3 W5) := by
        subst hW5 hbs
        exact ⟨new0, b5.out.alloc b5.out.size _⟩
      rw [← hW5, ← hbs]
      clear hW5 hbs
      clear zz zd nga ngb ngc ngd nge ngf ngg ngh ngi H13 KC HE HNW b4 b5
      have G5 : Hid (GRow 37 6 uC w2.heap.size W5 (.slice (some ⟨go, 0, none⟩) n c3) (⟨un, uw, ⟨ua, ub, uc, ud⟩⟩ :: r) ∧ Below w2.heap.size w2 W5) := ⟨HG3.out.1.below K5.out.2, HG3.out.2.trans (K5.out.2.mono HG3.out.2.size)⟩
      clear HG3
      by_cases hse : se = 0
      · obtain rfl := hse
        obtain ⟨c0, c1, c2, c3'⟩ := c4b K5.out.1
        have hbs := (Array.getElem?_eq_some_iff.1 K5.out.1).1
        obtain ⟨⟨y0, y1, y2, y3, y4, y5⟩, yf, yg, yl⟩ := grow_cells G5.out.1
        have y3' : W5.cell? ⟨go, 2 + 1, none⟩ = some (.int .i64 ub) := y3
        have y4' : W5.cell? ⟨go, 2 + 2, none⟩ = some (.int .i64 uc) := y4
        have y5' : W5.cell? ⟨go, 2 + 3, none⟩ = some (.int .i64 ud) := y5
        have z2 := yf 2
        have z3 := yf (2 + 1)
        have z4 := yf (2 + 2)
        have z5 := yf (2 + 3)
        clear yf y0 y1 y3 y4 y5
        go_upto_region 13 with fail
        have G6 : Hid (GRow 37 6 uC w2.heap.size ((((W5.setCell ⟨go, 2, none⟩ (.int .i64 v0)).setCell ⟨go, 2 + 1, none⟩ (.int .i64 v1)).setCell ⟨go, 2 + 2, none⟩ (.int .i64 v2)).setCell ⟨go, 2 + 3, none⟩ (.int .i64 v3)) (.slice (some ⟨go, 0, none⟩) n c3) (⟨un, uw, ⟨v0, v1, v2, v3⟩⟩ :: r) ∧ Below w2.heap.size w2 ((((W5.setCell ⟨go, 2, none⟩ (.int .i64 v0)).setCell ⟨go, 2 + 1, none⟩ (.int .i64 v1)).setCell ⟨go, 2 + 2, none⟩ (.int .i64 v2)).setCell ⟨go, 2 + 3, none⟩ (.int .i64 v3))) := ⟨grow_vec (s := ⟨v0, v1, v2, v3⟩) G5.out.1, (((G5.out.2.setCell yg _).setCell yg _).setCell yg _).setCell yg _⟩
        clear c0 c1 c2 c3' hbs y2 y3' y4' y5' z2 z3 z4 z5 yg yl G5 K5
        obtain ⟨W6, hW6⟩ : ∃ W6, W6 = (((W5.setCell ⟨go, 2, none⟩ (.int .i64 v0)).setCell ⟨go, 2 + 1, none⟩ (.int .i64 v1)).setCell ⟨go, 2 + 2, none⟩ (.int .i64 v2)).setCell ⟨go, 2 + 3, none⟩ (.int .i64 v3) := ⟨_, rfl⟩
        first | rw [← hW6] at G6 ⊢ | (simp only [Nat.reduceAdd] at hW6 G6; rw [← hW6] at G6 ⊢)
        clear hW6
        obtain ⟨d0, d1, d2, d3⟩ := c4b (at_below G6.out.2 (Nat.le_refl _) HN2.out.1)
        have HMO := more_le HER.out HSM.out
        have H8b : Hid (Calls Try.prog 8 #[.agg #[.int .i64 l0, .int .i64 l1, .int .i64 l2, .int .i64 l3], .slice (some ⟨go, 0, none⟩) n c3] W6 (OrdP W6 ⟨l0, l1, l2, l3⟩ (⟨un, uw, ⟨v0, v1, v2, v3⟩⟩ :: r))) := order_any ⟨l0, l1, l2, l3⟩ _ n c3 _ W6 (by have := HR.out.2; simpa using this) (uarg_row G6.out.1 (HSZ.out ⟨un, uw, ⟨v0, v1, v2, v3⟩⟩ rfl)) (by omega)
        have HMO' : Hid (er ⟨l0, l1, l2, l3⟩ ⟨un, uw, ⟨v0, v1, v2, v3⟩⟩ = 0 ∧ ¬ rl (kT (ten ⟨l0, l1, l2, l3⟩ ⟨un, uw, ⟨v0, v1, v2, v3⟩⟩)) (kT (ten ⟨l0, l1, l2, l3⟩ ⟨un, uw, ⟨ua, ub, uc, ud⟩⟩))) := HMO
        clear HMO
        go_upto_region 14 with (go_at_call 8; refine H8b.out.mono ?_; rintro e w7 ⟨pb, mb, cb, eb, Rb, rfl, hmb, h7⟩)
        obtain ⟨o7, s7, b7⟩ := h7.out
        obtain ⟨e7, k7, l7, m7⟩ := moved (u' := ⟨un, uw, ⟨v0, v1, v2, v3⟩⟩) O2.out.1 rfl HMO'.out.1 o7
        subst e7
        obtain ⟨j1, hj1, hj2, hj3⟩ := name_at l7 (List.mem_cons_self ..)
        have hle : i0 ≤ j1 := (m7 i0 j1 HI0.out hj1).1 HMO'.out.2
        have H12b : Hid (Calls Try.prog 12 #[.slice pb mb cb, .string ⟨⟨un⟩⟩] w7 fun e w' => e = .returned (.int .i64 (j1 : Int)) ∧ w' = w7) := place_at w7 _ mb cb pb _ un j1 s7 hj2 hj3 hmb
        have G9 : Hid (GRow 37 6 uC w2.heap.size w7 (.slice (some ⟨go, 0, none⟩) n c3) (⟨un, uw, ⟨v0, v1, v2, v3⟩⟩ :: r) ∧ Below w2.heap.size w2 w7) := ⟨G6.out.1.below b7, G6.out.2.trans (b7.mono G6.out.2.size)⟩
        obtain rfl : mb = ma := by
          have q1 := s7.len
          have q2 := O2.out.2.2.2
          rw [List.length_map] at q1
          omega
        have le1 : ¬ (j1 : Int) < (i0 : Int) := by omega
        have le2 : decide ((j1 : Int) < (i0 : Int)) = false := decide_eq_false le1
        have le3 : ¬ (i0 : Int) < 0 := by omega
        have le4 : decide ((i0 : Int) < 0) = false := decide_eq_false le3
        clear d0 d1 d2 d3 h7 o7 s7 b7 k7 l7 m7 hj1 hj2 hj3 H8b G6 hle
        go_upto_region 16 with (go_at_call 12; refine H12b.out.mono ?_; rintro e w8 ⟨rfl, h8⟩; obtain rfl := h8.symm)
        clear le1 le2 le3 le4 h8 H12b
        have B9 : Hid (Below w.heap.size w w7) := O2.out.2.2.1.trans (G9.out.2.mono O2.out.2.2.1.size)
        obtain ⟨g', f', e', x0, x1, x2, x3, x4, x5⟩ := (HR.out.1.below B9.out).c 0 _ rfl
        cases e'
        simp only [Nat.zero_mul, Nat.add_zero] at x0 x1 x2 x3 x4 x5
        obtain ⟨⟨y0, y1, y2, y3, y4, y5⟩, yf, yg, yl⟩ := grow_cells G9.out.1
        have z0 := yf 0
        have z1 := yf 1
        have z2 := yf 2
        have z3 := yf 3
        have z4 := yf 4
        have z5 := yf 5
        clear yf
        go_upto_region 17 with fail
        have G10 : Hid (GRow 37 6 uC w2.heap.size ((((((w7.setCell ⟨go, 0, none⟩ (.string ⟨⟨un⟩⟩)).setCell ⟨go, 1, none⟩ (.int .i64 uw)).setCell ⟨go, 2, none⟩ (.int .i64 ua)).setCell ⟨go, 3, none⟩ (.int .i64 ub)).setCell ⟨go, 4, none⟩ (.int .i64 uc)).setCell ⟨go, 5, none⟩ (.int .i64 ud)) (.slice (some ⟨go, 0, none⟩) n c3) (⟨un, uw, ⟨ua, ub, uc, ud⟩⟩ :: r) ∧ Below w2.heap.size w2 ((((((w7.setCell ⟨go, 0, none⟩ (.string ⟨⟨un⟩⟩)).setCell ⟨go, 1, none⟩ (.int .i64 uw)).setCell ⟨go, 2, none⟩ (.int .i64 ua)).setCell ⟨go, 3, none⟩ (.int .i64 ub)).setCell ⟨go, 4, none⟩ (.int .i64 uc)).setCell ⟨go, 5, none⟩ (.int .i64 ud))) := ⟨grow_all (v := ⟨un, uw, ⟨ua, ub, uc, ud⟩⟩) G9.out.1, (((((G9.out.2.setCell yg _).setCell yg _).setCell yg _).setCell yg _).setCell yg _).setCell yg _⟩
        clear x0 x1 x2 x3 x4 x5 y0 y1 y2 y3 y4 y5 z0 z1 z2 z3 z4 z5 yl G9 B9
        obtain ⟨W10, hW10⟩ : ∃ W10, W10 = ((((((w7.setCell ⟨go, 0, none⟩ (.string ⟨⟨un⟩⟩)).setCell ⟨go, 1, none⟩ (.int .i64 uw)).setCell ⟨go, 2, none⟩ (.int .i64 ua)).setCell ⟨go, 3, none⟩ (.int .i64 ub)).setCell ⟨go, 4, none⟩ (.int .i64 uc)).setCell ⟨go, 5, none⟩ (.int .i64 ud)) := ⟨_, rfl⟩
        rw [← hW10] at G10 ⊢
        clear hW10
        have B10 : Hid (Below w.heap.size w W10) := O2.out.2.2.1.trans (G10.out.2.mono O2.out.2.2.1.size)
        obtain ⟨g', f', e', x0, x1, x2, x3, x4, x5⟩ := (HR.out.1.below B10.out).c 0 _ rfl
        cases e'
        simp only [Nat.zero_mul, Nat.add_zero] at x0 x1 x2 x3 x4 x5
        obtain ⟨⟨y0, y1, y2, y3, y4, y5⟩, yf, -, yl⟩ := grow_cells G10.out.1
        have z1 := yf 1
        clear yf x0 x2 x3 x4 x5 y0 y2 y3 y4 y5
        go_upto_region 18 with fail
        have G11 : Hid (GRow 37 6 uC w2.heap.size (W10.setCell ⟨go, 1, none⟩ (.int .i64 mw)) (.slice (some ⟨go, 0, none⟩) n c3) (⟨un, mw, ⟨ua, ub, uc, ud⟩⟩ :: r) ∧ Below w2.heap.size w2 (W10.setCell ⟨go, 1, none⟩ (.int .i64 mw))) := ⟨grow_wt (x := mw) G10.out.1, G10.out.2.setCell yg _⟩
        clear x1 y1 z1 yl G10 B10
        obtain ⟨W11, hW11⟩ : ∃ W11, W11 = W10.setCell ⟨go, 1, none⟩ (.int .i64 mw) := ⟨_, rfl⟩
        rw [← hW11] at G11 ⊢
        clear hW11
        obtain ⟨d0, d1, d2, d3⟩ := c4b (at_below G11.out.2 (Nat.le_refl _) HN2.out.1)
        have H8c : Hid (Calls Try.prog 8 #[.agg #[.int .i64 l0, .int .i64 l1, .int .i64 l2, .int .i64 l3], .slice (some ⟨go, 0, none⟩) n c3] W11 (OrdP W11 ⟨l0, l1, l2, l3⟩ (⟨un, mw, ⟨ua, ub, uc, ud⟩⟩ :: r))) := order_any ⟨l0, l1, l2, l3⟩ _ n c3 _ W11 (by have := HR.out.2; simpa using this) (uarg_row G11.out.1 (HSZ.out ⟨un, mw, ⟨ua, ub, uc, ud⟩⟩ rfl)) (by omega)
        go_upto_region 19 with (go_at_call 8; refine H8c.out.mono ?_; rintro e w12 ⟨pc, mc, cc, ec, Rc, rfl, hmc, h12⟩)
        obtain ⟨o12, s12, b12⟩ := h12.out
        obtain ⟨e12, k12, l12, m12⟩ := moved (u' := ⟨un, mw, ⟨ua, ub, uc, ud⟩⟩) O2.out.1 rfl HWT.out.1 o12
        subst e12
        obtain ⟨j0, hj1, hj2, hj3⟩ := name_at l12 (List.mem_cons_self ..)
        have hle : j0 ≤ i0 := (m12 i0 j0 HI0.out hj1).2 HWT.out.2
        have H12c : Hid (Calls Try.prog 12 #[.slice pc mc cc, .string ⟨⟨un⟩⟩] w12 fun e w' => e = .returned (.int .i64 (j0 : Int)) ∧ w' = w12) := place_at w12 _ mc cc pc _ un j0 s12 hj2 hj3 hmc
        have HF : Hid (Below w.heap.size w w12) := by
          have b := G11.out.2.trans (b12.mono G11.out.2.size)
          exact O2.out.2.2.1.trans (b.mono O2.out.2.2.1.size)
        have le1 : (j0 : Int) ≤ (i0 : Int) := by omega
        have le2 : decide ((j0 : Int) ≤ (i0 : Int)) = true := decide_eq_true le1
        have le3 : (0 : Int) ≤ (j0 : Int) := by omega
        clear d0 d1 d2 d3 h12 o12 s12 b12 k12 l12 m12 hj1 hj2 hj3 H8c G11
        go_wp2_with (go_at_call 12; refine H12c.out.mono ?_; rintro e w13 ⟨rfl, h13⟩; obtain rfl := h13.symm)
        go_ret
        exact ⟨by simp, HF.out⟩
      · have s1' : ¬ (se : Int) = 0 := by omega
        have s2' : ((se : Int) == 0) = false := by simp; omega
        have G9 : Hid (GRow 37 6 uC w2.heap.size W5 (.slice (some ⟨go, 0, none⟩) n c3) (⟨un, uw, ⟨ua, ub, uc, ud⟩⟩ :: r) ∧ Below w2.heap.size w2 W5) := G5.out
        clear G5 K5
        go_upto_region 16 with fail
        have B9 : Hid (Below w.heap.size w W5) := O2.out.2.2.1.trans (G9.out.2.mono O2.out.2.2.1.size)
        obtain ⟨g', f', e', x0, x1, x2, x3, x4, x5⟩ := (HR.out.1.below B9.out).c 0 _ rfl
        cases e'
        simp only [Nat.zero_mul, Nat.add_zero] at x0 x1 x2 x3 x4 x5
        obtain ⟨⟨y0, y1, y2, y3, y4, y5⟩, yf, yg, yl⟩ := grow_cells G9.out.1
        have z0 := yf 0
        have z1 := yf 1
        have z2 := yf 2
        have z3 := yf 3
        have z4 := yf 4
        have z5 := yf 5
        clear yf
        go_upto_region 17 with fail
        have G10 : Hid (GRow 37 6 uC w2.heap.size ((((((W5.setCell ⟨go, 0, none⟩ (.string ⟨⟨un⟩⟩)).setCell ⟨go, 1, none⟩ (.int .i64 uw)).setCell ⟨go, 2, none⟩ (.int .i64 ua)).setCell ⟨go, 3, none⟩ (.int .i64 ub)).setCell ⟨go, 4, none⟩ (.int .i64 uc)).setCell ⟨go, 5, none⟩ (.int .i64 ud)) (.slice (some ⟨go, 0, none⟩) n c3) (⟨un, uw, ⟨ua, ub, uc, ud⟩⟩ :: r) ∧ Below w2.heap.size w2 ((((((W5.setCell ⟨go, 0, none⟩ (.string ⟨⟨un⟩⟩)).setCell ⟨go, 1, none⟩ (.int .i64 uw)).setCell ⟨go, 2, none⟩ (.int .i64 ua)).setCell ⟨go, 3, none⟩ (.int .i64 ub)).setCell ⟨go, 4, none⟩ (.int .i64 uc)).setCell ⟨go, 5, none⟩ (.int .i64 ud))) := ⟨grow_all (v := ⟨un, uw, ⟨ua, ub, uc, ud⟩⟩) G9.out.1, (((((G9.out.2.setCell yg _).setCell yg _).setCell yg _).setCell yg _).setCell yg _).setCell yg _⟩
        clear x0 x1 x2 x3 x4 x5 y0 y1 y2 y3 y4 y5 z0 z1 z2 z3 z4 z5 yl G9 B9
        obtain ⟨W10, hW10⟩ : ∃ W10, W10 = ((((((W5.setCell ⟨go, 0, none⟩ (.string ⟨⟨un⟩⟩)).setCell ⟨go, 1, none⟩ (.int .i64 uw)).setCell ⟨go, 2, none⟩ (.int .i64 ua)).setCell ⟨go, 3, none⟩ (.int .i64 ub)).setCell ⟨go, 4, none⟩ (.int .i64 uc)).setCell ⟨go, 5, none⟩ (.int .i64 ud)) := ⟨_, rfl⟩
        rw [← hW10] at G10 ⊢
        clear hW10
        have B10 : Hid (Below w.heap.size w W10) := O2.out.2.2.1.trans (G10.out.2.mono O2.out.2.2.1.size)
        obtain ⟨g', f', e', x0, x1, x2, x3, x4, x5⟩ := (HR.out.1.below B10.out).c 0 _ rfl
        cases e'
        simp only [Nat.zero_mul, Nat.add_zero] at x0 x1 x2 x3 x4 x5
        obtain ⟨⟨y0, y1, y2, y3, y4, y5⟩, yf, -, yl⟩ := grow_cells G10.out.1
        have z1 := yf 1
        clear yf x0 x2 x3 x4 x5 y0 y2 y3 y4 y5
        go_upto_region 18 with fail
        have G11 : Hid (GRow 37 6 uC w2.heap.size (W10.setCell ⟨go, 1, none⟩ (.int .i64 mw)) (.slice (some ⟨go, 0, none⟩) n c3) (⟨un, mw, ⟨ua, ub, uc, ud⟩⟩ :: r) ∧ Below w2.heap.size w2 (W10.setCell ⟨go, 1, none⟩ (.int .i64 mw))) := ⟨grow_wt (x := mw) G10.out.1, G10.out.2.setCell yg _⟩
        clear x1 y1 z1 yl G10 B10
        obtain ⟨W11, hW11⟩ : ∃ W11, W11 = W10.setCell ⟨go, 1, none⟩ (.int .i64 mw) := ⟨_, rfl⟩
        rw [← hW11] at G11 ⊢
        clear hW11
        obtain ⟨d0, d1, d2, d3⟩ := c4b (at_below G11.out.2 (Nat.le_refl _) HN2.out.1)
        have H8c : Hid (Calls Try.prog 8 #[.agg #[.int .i64 l0, .int .i64 l1, .int .i64 l2, .int .i64 l3], .slice (some ⟨go, 0, none⟩) n c3] W11 (OrdP W11 ⟨l0, l1, l2, l3⟩ (⟨un, mw, ⟨ua, ub, uc, ud⟩⟩ :: r))) := order_any ⟨l0, l1, l2, l3⟩ _ n c3 _ W11 (by have := HR.out.2; simpa using this) (uarg_row G11.out.1 (HSZ.out ⟨un, mw, ⟨ua, ub, uc, ud⟩⟩ rfl)) (by omega)
        go_upto_region 19 with (go_at_call 8; refine H8c.out.mono ?_; rintro e w12 ⟨pc, mc, cc, ec, Rc, rfl, hmc, h12⟩)
        obtain ⟨o12, s12, b12⟩ := h12.out
        obtain ⟨e12, k12, l12, m12⟩ := moved (u' := ⟨un, mw, ⟨ua, ub, uc, ud⟩⟩) O2.out.1 rfl HWT.out.1 o12
        subst e12
        obtain ⟨j0, hj1, hj2, hj3⟩ := name_at l12 (List.mem_cons_self ..)
        have hle : j0 ≤ i0 := (m12 i0 j0 HI0.out hj1).2 HWT.out.2
        have H12c : Hid (Calls Try.prog 12 #[.slice pc mc cc, .string ⟨⟨un⟩⟩] w12 fun e w' => e = .returned (.int .i64 (j0 : Int)) ∧ w' = w12) := place_at w12 _ mc cc pc _ un j0 s12 hj2 hj3 hmc
        have HF : Hid (Below w.heap.size w w12) := by
          have b := G11.out.2.trans (b12.mono G11.out.2.size)
          exact O2.out.2.2.1.trans (b.mono O2.out.2.2.1.size)
        have le1 : (j0 : Int) ≤ (i0 : Int) := by omega
        have le2 : decide ((j0 : Int) ≤ (i0 : Int)) = true := decide_eq_true le1
        have le3 : (0 : Int) ≤ (j0 : Int) := by omega
        clear d0 d1 d2 d3 h12 o12 s12 b12 k12 l12 m12 hj1 hj2 hj3 H8c G11
        go_wp2_with (go_at_call 12; refine H12c.out.mono ?_; rintro e w13 ⟨rfl, h13⟩; obtain rfl := h13.symm)
        go_ret
        exact ⟨by simp, HF.out⟩
    · obtain ⟨bs, hbs⟩ : ∃ bs, bs = w3.heap.size := ⟨_, rfl⟩
      obtain ⟨W5, hW5⟩ : ∃ W5, W5 = (((w4.setCell ⟨w3.heap.size, 0, none⟩ (.int .i64 v0)).setCell ⟨w3.heap.size, 1, none⟩ (.int .i64 v1)).setCell ⟨w3.heap.size, 2, none⟩ (.int .i64 v2)).setCell ⟨w3.heap.size, 3, none⟩ (.int .i64 v3) := ⟨_, rfl⟩
      have K5 : Hid (W5.heap[bs]? = some (.cells #[.int .i64 v0, .int .i64 v1, .int .i64 v2, .int .i64 v3] 23 (0, 0)) ∧ Below w3.heap.size w3 W5) := by
        subst hW5 hbs
        exact ⟨Vs.at_set4 n5.out, (((b5.out.setCell (Nat.le_refl _) _).setCell (Nat.le_refl _) _).setCell (Nat.le_refl _) _).setCell (Nat.le_refl _) _⟩
      rw [← hW5, ← hbs]
      clear hW5 hbs q0 q1 q2 q3 f0 f1 f2 f3 n5
      clear zz zd nga ngb ngc ngd nge ngf ngg ngh ngi H13 KC HE HNW b4 b5
      have G5 : Hid (GRow 37 6 uC w2.heap.size W5 (.slice (some ⟨go, 0, none⟩) n c3) (⟨un, uw, ⟨ua, ub, uc, ud⟩⟩ :: r) ∧ Below w2.heap.size w2 W5) := ⟨HG3.out.1.below K5.out.2, HG3.out.2.trans (K5.out.2.mono HG3.out.2.size)⟩
      clear HG3
      by_cases hse : se = 0
      · obtain rfl := hse
        obtain ⟨c0, c1, c2, c3'⟩ := c4b K5.out.1
        have hbs := (Array.getElem?_eq_some_iff.1 K5.out.1).1
        obtain ⟨⟨y0, y1, y2, y3, y4, y5⟩, yf, yg, yl⟩ := grow_cells G5.out.1
        have y3' : W5.cell? ⟨go, 2 + 1, none⟩ = some (.int .i64 ub) := y3
        have y4' : W5.cell? ⟨go, 2 + 2, none⟩ = some (.int .i64 uc) := y4
        have y5' : W5.cell? ⟨go, 2 + 3, none⟩ = some (.int .i64 ud) := y5
        have z2 := yf 2
        have z3 := yf (2 + 1)
        have z4 := yf (2 + 2)
        have z5 := yf (2 + 3)
        clear yf y0 y1 y3 y4 y5
        go_upto_region 13 with fail
        have G6 : Hid (GRow 37 6 uC w2.heap.size ((((W5.setCell ⟨go, 2, none⟩ (.int .i64 v0)).setCell ⟨go, 2 + 1, none⟩ (.int .i64 v1)).setCell ⟨go, 2 + 2, none⟩ (.int .i64 v2)).setCell ⟨go, 2 + 3, none⟩ (.int .i64 v3)) (.slice (some ⟨go, 0, none⟩) n c3) (⟨un, uw, ⟨v0, v1, v2, v3⟩⟩ :: r) ∧ Below w2.heap.size w2 ((((W5.setCell ⟨go, 2, none⟩ (.int .i64 v0)).setCell ⟨go, 2 + 1, none⟩ (.int .i64 v1)).setCell ⟨go, 2 + 2, none⟩ (.int .i64 v2)).setCell ⟨go, 2 + 3, none⟩ (.int .i64 v3))) := ⟨grow_vec (s := ⟨v0, v1, v2, v3⟩) G5.out.1, (((G5.out.2.setCell yg _).setCell yg _).setCell yg _).setCell yg _⟩
        clear c0 c1 c2 c3' hbs y2 y3' y4' y5' z2 z3 z4 z5 yg yl G5 K5
        obtain ⟨W6, hW6⟩ : ∃ W6, W6 = (((W5.setCell ⟨go, 2, none⟩ (.int .i64 v0)).setCell ⟨go, 2 + 1, none⟩ (.int .i64 v1)).setCell ⟨go, 2 + 2, none⟩ (.int .i64 v2)).setCell ⟨go, 2 + 3, none⟩ (.int .i64 v3) := ⟨_, rfl⟩
        first | rw [← hW6] at G6 ⊢ | (simp only [Nat.reduceAdd] at hW6 G6; rw [← hW6] at G6 ⊢)
        clear hW6
        obtain ⟨d0, d1, d2, d3⟩ := c4b (at_below G6.out.2 (Nat.le_refl _) HN2.out.1)
        have HMO := more_le HER.out HSM.out
        have H8b : Hid (Calls Try.prog 8 #[.agg #[.int .i64 l0, .int .i64 l1, .int .i64 l2, .int .i64 l3], .slice (some ⟨go, 0, none⟩) n c3] W6 (OrdP W6 ⟨l0, l1, l2, l3⟩ (⟨un, uw, ⟨v0, v1, v2, v3⟩⟩ :: r))) := order_any ⟨l0, l1, l2, l3⟩ _ n c3 _ W6 (by have := HR.out.2; simpa using this) (uarg_row G6.out.1 (HSZ.out ⟨un, uw, ⟨v0, v1, v2, v3⟩⟩ rfl)) (by omega)
        have HMO' : Hid (er ⟨l0, l1, l2, l3⟩ ⟨un, uw, ⟨v0, v1, v2, v3⟩⟩ = 0 ∧ ¬ rl (kT (ten ⟨l0, l1, l2, l3⟩ ⟨un, uw, ⟨v0, v1, v2, v3⟩⟩)) (kT (ten ⟨l0, l1, l2, l3⟩ ⟨un, uw, ⟨ua, ub, uc, ud⟩⟩))) := HMO
        clear HMO
        go_upto_region 14 with (go_at_call 8; refine H8b.out.mono ?_; rintro e w7 ⟨pb, mb, cb, eb, Rb, rfl, hmb, h7⟩)
        obtain ⟨o7, s7, b7⟩ := h7.out
        obtain ⟨e7, k7, l7, m7⟩ := moved (u' := ⟨un, uw, ⟨v0, v1, v2, v3⟩⟩) O2.out.1 rfl HMO'.out.1 o7
        subst e7
        obtain ⟨j1, hj1, hj2, hj3⟩ := name_at l7 (List.mem_cons_self ..)
        have hle : i0 ≤ j1 := (m7 i0 j1 HI0.out hj1).1 HMO'.out.2
        have H12b : Hid (Calls Try.prog 12 #[.slice pb mb cb, .string ⟨⟨un⟩⟩] w7 fun e w' => e = .returned (.int .i64 (j1 : Int)) ∧ w' = w7) := place_at w7 _ mb cb pb _ un j1 s7 hj2 hj3 hmb
        have G9 : Hid (GRow 37 6 uC w2.heap.size w7 (.slice (some ⟨go, 0, none⟩) n c3) (⟨un, uw, ⟨v0, v1, v2, v3⟩⟩ :: r) ∧ Below w2.heap.size w2 w7) := ⟨G6.out.1.below b7, G6.out.2.trans (b7.mono G6.out.2.size)⟩
        obtain rfl : mb = ma := by
          have q1 := s7.len
          have q2 := O2.out.2.2.2
          rw [List.length_map] at q1
          omega
        have le1 : ¬ (j1 : Int) < (i0 : Int) := by omega
        have le2 : decide ((j1 : Int) < (i0 : Int)) = false := decide_eq_false le1
        have le3 : ¬ (i0 : Int) < 0 := by omega
        have le4 : decide ((i0 : Int) < 0) = false := decide_eq_false le3
        clear d0 d1 d2 d3 h7 o7 s7 b7 k7 l7 m7 hj1 hj2 hj3 H8b G6 hle
        go_upto_region 16 with (go_at_call 12; refine H12b.out.mono ?_; rintro e w8 ⟨rfl, h8⟩; obtain rfl := h8.symm)
        clear le1 le2 le3 le4 h8 H12b
        have B9 : Hid (Below w.heap.size w w7) := O2.out.2.2.1.trans (G9.out.2.mono O2.out.2.2.1.size)
        obtain ⟨g', f', e', x0, x1, x2, x3, x4, x5⟩ := (HR.out.1.below B9.out).c 0 _ rfl
        cases e'
        simp only [Nat.zero_mul, Nat.add_zero] at x0 x1 x2 x3 x4 x5
        obtain ⟨⟨y0, y1, y2, y3, y4, y5⟩, yf, yg, yl⟩ := grow_cells G9.out.1
        have z0 := yf 0
        have z1 := yf 1
        have z2 := yf 2
        have z3 := yf 3
        have z4 := yf 4
        have z5 := yf 5
        clear yf
        go_upto_region 17 with fail
        have G10 : Hid (GRow 37 6 uC w2.heap.size ((((((w7.setCell ⟨go, 0, none⟩ (.string ⟨⟨un⟩⟩)).setCell ⟨go, 1, none⟩ (.int .i64 uw)).setCell ⟨go, 2, none⟩ (.int .i64 ua)).setCell ⟨go, 3, none⟩ (.int .i64 ub)).setCell ⟨go, 4, none⟩ (.int .i64 uc)).setCell ⟨go, 5, none⟩ (.int .i64 ud)) (.slice (some ⟨go, 0, none⟩) n c3) (⟨un, uw, ⟨ua, ub, uc, ud⟩⟩ :: r) ∧ Below w2.heap.size w2 ((((((w7.setCell ⟨go, 0, none⟩ (.string ⟨⟨un⟩⟩)).setCell ⟨go, 1, none⟩ (.int .i64 uw)).setCell ⟨go, 2, none⟩ (.int .i64 ua)).setCell ⟨go, 3, none⟩ (.int .i64 ub)).setCell ⟨go, 4, none⟩ (.int .i64 uc)).setCell ⟨go, 5, none⟩ (.int .i64 ud))) := ⟨grow_all (v := ⟨un, uw, ⟨ua, ub, uc, ud⟩⟩) G9.out.1, (((((G9.out.2.setCell yg _).setCell yg _).setCell yg _).setCell yg _).setCell yg _).setCell yg _⟩
        clear x0 x1 x2 x3 x4 x5 y0 y1 y2 y3 y4 y5 z0 z1 z2 z3 z4 z5 yl G9 B9
        obtain ⟨W10, hW10⟩ : ∃ W10, W10 = ((((((w7.setCell ⟨go, 0, none⟩ (.string ⟨⟨un⟩⟩)).setCell ⟨go, 1, none⟩ (.int .i64 uw)).setCell ⟨go, 2, none⟩ (.int .i64 ua)).setCell ⟨go, 3, none⟩ (.int .i64 ub)).setCell ⟨go, 4, none⟩ (.int .i64 uc)).setCell ⟨go, 5, none⟩ (.int .i64 ud)) := ⟨_, rfl⟩
        rw [← hW10] at G10 ⊢
        clear hW10
        have B10 : Hid (Below w.heap.size w W10) := O2.out.2.2.1.trans (G10.out.2.mono O2.out.2.2.1.size)
        obtain ⟨g', f', e', x0, x1, x2, x3, x4, x5⟩ := (HR.out.1.below B10.out).c 0 _ rfl
        cases e'
        simp only [Nat.zero_mul, Nat.add_zero] at x0 x1 x2 x3 x4 x5
        obtain ⟨⟨y0, y1, y2, y3, y4, y5⟩, yf, -, yl⟩ := grow_cells G10.out.1
        have z1 := yf 1
        clear yf x0 x2 x3 x4 x5 y0 y2 y3 y4 y5
        go_upto_region 18 with fail
        have G11 : Hid (GRow 37 6 uC w2.heap.size (W10.setCell ⟨go, 1, none⟩ (.int .i64 mw)) (.slice (some ⟨go, 0, none⟩) n c3) (⟨un, mw, ⟨ua, ub, uc, ud⟩⟩ :: r) ∧ Below w2.heap.size w2 (W10.setCell ⟨go, 1, none⟩ (.int .i64 mw))) := ⟨grow_wt (x := mw) G10.out.1, G10.out.2.setCell yg _⟩
        clear x1 y1 z1 yl G10 B10
        obtain ⟨W11, hW11⟩ : ∃ W11, W11 = W10.setCell ⟨go, 1, none⟩ (.int .i64 mw) := ⟨_, rfl⟩
        rw [← hW11] at G11 ⊢
        clear hW11
        obtain ⟨d0, d1, d2, d3⟩ := c4b (at_below G11.out.2 (Nat.le_refl _) HN2.out.1)
        have H8c : Hid (Calls Try.prog 8 #[.agg #[.int .i64 l0, .int .i64 l1, .int .i64 l2, .int .i64 l3], .slice (some ⟨go, 0, none⟩) n c3] W11 (OrdP W11 ⟨l0, l1, l2, l3⟩ (⟨un, mw, ⟨ua, ub, uc, ud⟩⟩ :: r))) := order_any ⟨l0, l1, l2, l3⟩ _ n c3 _ W11 (by have := HR.out.2; simpa using this) (uarg_row G11.out.1 (HSZ.out ⟨un, mw, ⟨ua, ub, uc, ud⟩⟩ rfl)) (by omega)
        go_upto_region 19 with (go_at_call 8; refine H8c.out.mono ?_; rintro e w12 ⟨pc, mc, cc, ec, Rc, rfl, hmc, h12⟩)
        obtain ⟨o12, s12, b12⟩ := h12.out
        obtain ⟨e12, k12, l12, m12⟩ := moved (u' := ⟨un, mw, ⟨ua, ub, uc, ud⟩⟩) O2.out.1 rfl HWT.out.1 o12
        subst e12
        obtain ⟨j0, hj1, hj2, hj3⟩ := name_at l12 (List.mem_cons_self ..)
        have hle : j0 ≤ i0 := (m12 i0 j0 HI0.out hj1).2 HWT.out.2
        have H12c : Hid (Calls Try.prog 12 #[.slice pc mc cc, .string ⟨⟨un⟩⟩] w12 fun e w' => e = .returned (.int .i64 (j0 : Int)) ∧ w' = w12) := place_at w12 _ mc cc pc _ un j0 s12 hj2 hj3 hmc
        have HF : Hid (Below w.heap.size w w12) := by
          have b := G11.out.2.trans (b12.mono G11.out.2.size)
          exact O2.out.2.2.1.trans (b.mono O2.out.2.2.1.size)
        have le1 : (j0 : Int) ≤ (i0 : Int) := by omega
        have le2 : decide ((j0 : Int) ≤ (i0 : Int)) = true := decide_eq_true le1
        have le3 : (0 : Int) ≤ (j0 : Int) := by omega
        clear d0 d1 d2 d3 h12 o12 s12 b12 k12 l12 m12 hj1 hj2 hj3 H8c G11
        go_wp2_with (go_at_call 12; refine H12c.out.mono ?_; rintro e w13 ⟨rfl, h13⟩; obtain rfl := h13.symm)
        go_ret
        exact ⟨by simp, HF.out⟩
      · have s1' : ¬ (se : Int) = 0 := by omega
        have s2' : ((se : Int) == 0) = false := by simp; omega
        have G9 : Hid (GRow 37 6 uC w2.heap.size W5 (.slice (some ⟨go, 0, none⟩) n c3) (⟨un, uw, ⟨ua, ub, uc, ud⟩⟩ :: r) ∧ Below w2.heap.size w2 W5) := G5.out
        clear G5 K5
        go_upto_region 16 with fail
        have B9 : Hid (Below w.heap.size w W5) := O2.out.2.2.1.trans (G9.out.2.mono O2.out.2.2.1.size)
        obtain ⟨g', f', e', x0, x1, x2, x3, x4, x5⟩ := (HR.out.1.below B9.out).c 0 _ rfl
        cases e'
        simp only [Nat.zero_mul, Nat.add_zero] at x0 x1 x2 x3 x4 x5
        obtain ⟨⟨y0, y1, y2, y3, y4, y5⟩, yf, yg, yl⟩ := grow_cells G9.out.1
        have z0 := yf 0
        have z1 := yf 1
        have z2 := yf 2
        have z3 := yf 3
        have z4 := yf 4
        have z5 := yf 5
        clear yf
        go_upto_region 17 with fail
        have G10 : Hid (GRow 37 6 uC w2.heap.size ((((((W5.setCell ⟨go, 0, none⟩ (.string ⟨⟨un⟩⟩)).setCell ⟨go, 1, none⟩ (.int .i64 uw)).setCell ⟨go, 2, none⟩ (.int .i64 ua)).setCell ⟨go, 3, none⟩ (.int .i64 ub)).setCell ⟨go, 4, none⟩ (.int .i64 uc)).setCell ⟨go, 5, none⟩ (.int .i64 ud)) (.slice (some ⟨go, 0, none⟩) n c3) (⟨un, uw, ⟨ua, ub, uc, ud⟩⟩ :: r) ∧ Below w2.heap.size w2 ((((((W5.setCell ⟨go, 0, none⟩ (.string ⟨⟨un⟩⟩)).setCell ⟨go, 1, none⟩ (.int .i64 uw)).setCell ⟨go, 2, none⟩ (.int .i64 ua)).setCell ⟨go, 3, none⟩ (.int .i64 ub)).setCell ⟨go, 4, none⟩ (.int .i64 uc)).setCell ⟨go, 5, none⟩ (.int .i64 ud))) := ⟨grow_all (v := ⟨un, uw, ⟨ua, ub, uc, ud⟩⟩) G9.out.1, (((((G9.out.2.setCell yg _).setCell yg _).setCell yg _).setCell yg _).setCell yg _).setCell yg _⟩
        clear x0 x1 x2 x3 x4 x5 y0 y1 y2 y3 y4 y5 z0 z1 z2 z3 z4 z5 yl G9 B9
        obtain ⟨W10, hW10⟩ : ∃ W10, W10 = ((((((W5.setCell ⟨go, 0, none⟩ (.string ⟨⟨un⟩⟩)).setCell ⟨go, 1, none⟩ (.int .i64 uw)).setCell ⟨go, 2, none⟩ (.int .i64 ua)).setCell ⟨go, 3, none⟩ (.int .i64 ub)).setCell ⟨go, 4, none⟩ (.int .i64 uc)).setCell ⟨go, 5, none⟩ (.int .i64 ud)) := ⟨_, rfl⟩
        rw [← hW10] at G10 ⊢
        clear hW10
        have B10 : Hid (Below w.heap.size w W10) := O2.out.2.2.1.trans (G10.out.2.mono O2.out.2.2.1.size)
        obtain ⟨g', f', e', x0, x1, x2, x3, x4, x5⟩ := (HR.out.1.below B10.out).c 0 _ rfl
        cases e'
        simp only [Nat.zero_mul, Nat.add_zero] at x0 x1 x2 x3 x4 x5
        obtain ⟨⟨y0, y1, y2, y3, y4, y5⟩, yf, -, yl⟩ := grow_cells G10.out.1
        have z1 := yf 1
        clear yf x0 x2 x3 x4 x5 y0 y2 y3 y4 y5
        go_upto_region 18 with fail
        have G11 : Hid (GRow 37 6 uC w2.heap.size (W10.setCell ⟨go, 1, none⟩ (.int .i64 mw)) (.slice (some ⟨go, 0, none⟩) n c3) (⟨un, mw, ⟨ua, ub, uc, ud⟩⟩ :: r) ∧ Below w2.heap.size w2 (W10.setCell ⟨go, 1, none⟩ (.int .i64 mw))) := ⟨grow_wt (x := mw) G10.out.1, G10.out.2.setCell yg _⟩
        clear x1 y1 z1 yl G10 B10
        obtain ⟨W11, hW11⟩ : ∃ W11, W11 = W10.setCell ⟨go, 1, none⟩ (.int .i64 mw) := ⟨_, rfl⟩
        rw [← hW11] at G11 ⊢
        clear hW11
        obtain ⟨d0, d1, d2, d3⟩ := c4b (at_below G11.out.2 (Nat.le_refl _) HN2.out.1)
        have H8c : Hid (Calls Try.prog 8 #[.agg #[.int .i64 l0, .int .i64 l1, .int .i64 l2, .int .i64 l3], .slice (some ⟨go, 0, none⟩) n c3] W11 (OrdP W11 ⟨l0, l1, l2, l3⟩ (⟨un, mw, ⟨ua, ub, uc, ud⟩⟩ :: r))) := order_any ⟨l0, l1, l2, l3⟩ _ n c3 _ W11 (by have := HR.out.2; simpa using this) (uarg_row G11.out.1 (HSZ.out ⟨un, mw, ⟨ua, ub, uc, ud⟩⟩ rfl)) (by omega)
        go_upto_region 19 with (go_at_call 8; refine H8c.out.mono ?_; rintro e w12 ⟨pc, mc, cc, ec, Rc, rfl, hmc, h12⟩)
        obtain ⟨o12, s12, b12⟩ := h12.out
        obtain ⟨e12, k12, l12, m12⟩ := moved (u' := ⟨un, mw, ⟨ua, ub, uc, ud⟩⟩) O2.out.1 rfl HWT.out.1 o12
        subst e12
        obtain ⟨j0, hj1, hj2, hj3⟩ := name_at l12 (List.mem_cons_self ..)
        have hle : j0 ≤ i0 := (m12 i0 j0 HI0.out hj1).2 HWT.out.2
        have H12c : Hid (Calls Try.prog 12 #[.slice pc mc cc, .string ⟨⟨un⟩⟩] w12 fun e w' => e = .returned (.int .i64 (j0 : Int)) ∧ w' = w12) := place_at w12 _ mc cc pc _ un j0 s12 hj2 hj3 hmc
        have HF : Hid (Below w.heap.size w w12) := by
          have b := G11.out.2.trans (b12.mono G11.out.2.size)
          exact O2.out.2.2.1.trans (b.mono O2.out.2.2.1.size)
        have le1 : (j0 : Int) ≤ (i0 : Int) := by omega
        have le2 : decide ((j0 : Int) ≤ (i0 : Int)) = true := decide_eq_true le1
        have le3 : (0 : Int) ≤ (j0 : Int) := by omega
        clear d0 d1 d2 d3 h12 o12 s12 b12 k12 l12 m12 hj1 hj2 hj3 H8c G11
        go_wp2_with (go_at_call 12; refine H12c.out.mono ?_; rintro e w13 ⟨rfl, h13⟩; obtain rfl := h13.symm)
        go_ret
        exact ⟨by simp, HF.out⟩
  · have s1 : ¬ (ea : Int) = 0 := by omega
    have s2 : ((ea : Int) == 0) = false := by simp; omega
    obtain rfl : ma = 0 := by
      have := O2.out.2.2.2
      rcases O2.out.1 with ⟨_, _, e⟩ | ⟨_, _, _, e⟩ | ⟨_, _, e, _⟩
      · rw [e] at this; exact this
      · rw [e] at this; exact this
      · exact absurd e hea
    have HF : Hid (Below w.heap.size w w2) := O2.out.2.2.1
    clear O2 HR HN2
    go_wp2_with fail
    go_ret
    exact ⟨by simp, HF.out⟩
end Go.Proofs.Ytcgaekaollhmpaa
