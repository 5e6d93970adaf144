/-
  WorkerPlays' law.
-/
import Derived.Test.YtihjmigjphljnaaTb
namespace Go.Proofs.Ytihjmigjphljnaa
open Go.RowKit Go.Maps Go.WideMaps
open Tk

section
variable {w0 w : World} {X : Nat → Option Obj} {pb rb : Nat}
/-- All against the document's list -/
theorem p2_all (h : P2 w0 w X pb rb) : ∃ n q0 c0, w.cell? ⟨rb, 0, none⟩ = some (.slice q0 n c0) ∧ Hid (Calls Try.prog 13 #[.pointer (some ⟨pb, 0, none⟩)] w fun e w1 => ∃ p c1, e = .returned (.slice p n c1) ∧ Hid ((Below w.heap.size w w1 ∧ Below w0.heap.size w0 w1) ∧ ∀ W, Below w1.heap.size w1 W → Calls Try.prog 12 #[.slice p n c1, .slice q0 n c0] W fun e w2 => e = .returned (.bool true) ∧ Hid (P2 w0 w2 X pb rb))) := by
  obtain ⟨D, h⟩ := h
  obtain ⟨q0, c0, hc, hv⟩ := h.list
  have hl := h.tab.2.1
  refine ⟨D.length, q0, c0, hc, ?_⟩
  obtain ⟨S, T, h1, -⟩ := h.both
  refine (all_any h1).mono ?_
  rintro e w1 ⟨p, c1, he, hh⟩
  refine ⟨p, c1, he, ⟨hh.out.2.1, h.bel.trans (hh.out.2.1.mono h.bel.size)⟩, fun W b => ?_⟩
  refine (same_any W _ c1 c0 p q0 D (hh.out.1.vr.below b) ((hv.below hh.out.2.1).below b) rfl (by omega)).mono ?_
  rintro e w2 ⟨he2, k2⟩
  exact ⟨he2, D, ((h.below hh.out.2.1).below b).below k2.out⟩
theorem p2_live (h : P2 w0 w X pb rb) : Calls Try.prog 14 #[.pointer (some ⟨pb, 0, none⟩)] w fun e w1 => ∃ p m c1, e = .returned (.slice p m c1) ∧ Hid (Below w0.heap.size w0 w1 ∧ ∀ W, Below w1.heap.size w1 W → Calls Try.prog 15 #[.pointer (some ⟨rb, 0, none⟩)] W fun e w2 => ∃ p2 c2, e = .returned (.slice p2 m c2) ∧ Hid (Below w0.heap.size w0 w2 ∧ ∀ W2, Below w2.heap.size w2 W2 → Calls Try.prog 12 #[.slice p m c1, .slice p2 m c2] W2 fun e w3 => e = .returned (.bool true) ∧ Hid (P2 w0 w3 X pb rb))) := by
  obtain ⟨D, h⟩ := h
  obtain ⟨S, T, h1, h2, -⟩ := h.both
  have hl := h1.len
  refine (live_any h1).mono ?_
  rintro e w1 ⟨p, m, c1, he, hh⟩
  obtain ⟨rfl, t1, t2, t3⟩ := hh.out
  refine ⟨p, _, c1, he, (h.below t2).bel, fun W b => ?_⟩
  refine (rlive_any ((h2.keepB t2).keepB b)).mono ?_
  rintro e w2 ⟨p2, m2, c2, he2, hh2⟩
  obtain ⟨rfl, u1, u2, u3⟩ := hh2.out
  refine ⟨p2, c2, he2, (((h.below t2).below b).below u2).bel, fun W2 b2 => ?_⟩
  refine (same_any W2 _ c1 c2 p p2 (D.filter Nd.lv) (((t1.below b).below u2).below b2) (u1.below b2) rfl (by have := List.length_filter_le Nd.lv D; omega)).mono ?_
  rintro e w3 ⟨he3, k3⟩
  exact ⟨he3, D, ((((h.below t2).below b).below u2).below b2).below k3.out⟩
theorem p2_whole (h : P2 w0 w X pb rb) : ∃ a b c d : Int, Hid (Calls Try.prog 16 #[.pointer (some ⟨pb, 0, none⟩)] w fun e w1 => e = .returned (.agg #[.int .i64 a, .int .i64 b, .int .i64 c, .int .i64 d]) ∧ Hid (Below w0.heap.size w0 w1 ∧ ∀ W, Below w1.heap.size w1 W → Calls Try.prog 17 #[.pointer (some ⟨rb, 0, none⟩)] W fun e w2 => e = .returned (.agg #[.int .i64 a, .int .i64 b, .int .i64 c, .int .i64 d]) ∧ Hid (P2 w0 w2 X pb rb))) := by
  obtain ⟨D, h⟩ := h
  obtain ⟨v, h1, h2⟩ := l2_whole h
  refine ⟨v.a, v.b, v.c, v.d, h1.mono ?_⟩
  rintro e w1 ⟨he, hh⟩
  refine ⟨he, hh.out.bel, fun W b => (h2 W (hh.out.below b)).mono ?_⟩
  rintro e w2 ⟨he2, h3⟩
  exact ⟨he2, D, h3.out⟩
end
set_option maxHeartbeats 8000000 in
set_option maxRecDepth 100000 in
theorem plays_law (q : Option Addr) (n c : Nat) (L : List Opr) (w : World) (hn : n = L.length) (hs : Scr w q L) (hz : ∀ o ∈ L, o.nm.size ≤ 140737488351232) (hm : n ≤ 9223372036854775807) :
    Calls Try.prog 3 #[.slice q n c] w fun e w' => e = .returned (.bool true) ∧ Below w.heap.size w w' := by
  have HA : Hid (∀ W, Calls Try.prog 9 #[] W fun e w' => e = .returned (.bool true) ∧ Hid (Below W.heap.size W w')) := awake_any
  by_cases h500 : 500 < n
  · have h3 : (500 : Int) < (n : Int) := by omega
    have h4 : decide ((500 : Int) < (n : Int)) = true := decide_eq_true h3
    clear hs hz hn hm
    go_enter Try.func3, Try.ntmps3
    go_upto_region 2 with (go_at_call 9; refine (HA.out _).mono ?_; rintro e w1 ⟨rfl, b1⟩)
    have HB : Hid (Calls Try.prog 9 #[] w1 fun e w' => e = .returned (.bool true) ∧ Hid (Below w.heap.size w w')) := (HA.out w1).mono fun e w' ⟨h1, h2⟩ => ⟨h1, b1.out.trans (h2.out.mono b1.out.size)⟩
    clear HA b1
    go_wp2_with (go_at_call 9; refine HB.out.mono ?_; rintro e w2 ⟨rfl, b2⟩)
    go_ret
    exact ⟨rfl, b2.out⟩
  have h5 : decide ((500 : Int) < (n : Int)) = false := decide_eq_false (by omega)
  have hn500 : n ≤ 500 := by omega
  have HSc : Hid (Scr w q L ∧ n = L.length) := ⟨hs, hn⟩
  have HZ : Hid (∀ o ∈ L, o.nm.size ≤ 281474976710656) := fun o ho => by have := hz o ho; omega
  clear hs hz hn hm h500
  go_enter Try.func3, Try.ntmps3
  go_upto_region 3 with (go_at_call 9; refine (HA.out _).mono ?_; rintro e w1 ⟨rfl, b1⟩)
  clear HA
  go_upto_region 5 with (go_at_call 10; refine (new_any _).mono ?_; rintro e w2 ⟨rfl, rfl⟩)
  have L0 : Hid (P2 w ((w1.alloc (.cells #[.map none, .slice none 0 0, .map none] 63 (0, 0))).alloc (.cells #[.slice none 0 0] 29 (0, 0))) NX w1.heap.size (w1.heap.size + 1)) := ⟨[], l2_new b1.out (kept_none w1)⟩
  clear b1
  generalize (w1.alloc (.cells #[.map none, .slice none 0 0, .map none] 63)).alloc (.cells #[.slice none 0 0] 29) = W2 at *
  generalize w1.heap.size + 1 = rb at *
  generalize w1.heap.size = pb at *
  go_wp2_with fail
  go_loopw [5] (fun t wr => ∃ i : Nat, i ≤ n ∧ t = .int .i64 (i : Nat) ∧ Hid (P2 w wr NX pb rb)) (fun t _ => n - (intOf t).toNat)
  case atStart => exact ⟨0, Nat.zero_le _, rfl, L0.out⟩
  case round =>
    obtain ⟨i, hi, rfl, HI⟩ := hrel
    clear L0
    by_cases hlt : i < n
    · obtain ⟨o, ho⟩ : ∃ o, L[i]? = some o := ⟨L[i]'(by have := HSc.out.2; omega), List.getElem?_eq_getElem _⟩
      obtain ⟨g, f, rfl, d0, d1, d2, d3, d4, d5, d6, d7⟩ := (HSc.out.1.below HI.out.bel) i o ho
      have HQ : Hid (∀ W, Below w.heap.size w W → W.cell? ⟨g, f + i * 8, none⟩ = some (.int .i64 o.k) ∧ W.cell? ⟨g, f + i * 8 + 1, none⟩ = some (.string o.nm) ∧ W.cell? ⟨g, f + i * 8 + 2, none⟩ = some (.int .i64 o.ep) ∧ W.cell? ⟨g, f + i * 8 + 3, none⟩ = some (.int .i64 o.now) ∧ W.cell? ⟨g, f + i * 8 + 4, none⟩ = some (.int .i64 o.v.a) ∧ W.cell? ⟨g, f + i * 8 + 5, none⟩ = some (.int .i64 o.v.b) ∧ W.cell? ⟨g, f + i * 8 + 6, none⟩ = some (.int .i64 o.v.c) ∧ W.cell? ⟨g, f + i * 8 + 7, none⟩ = some (.int .i64 o.v.d)) := fun W b => by
        obtain ⟨g', f', e, k0, k1, k2, k3, k4, k5, k6, k7⟩ := (HSc.out.1.below b) i o ho
        simp only [Option.some.injEq, Addr.mk.injEq, and_true] at e
        obtain ⟨rfl, rfl⟩ := e
        exact ⟨k0, k1, k2, k3, k4, k5, k6, k7⟩
      have HS : Hid (Calls Try.prog 11 #[.pointer (some ⟨pb, 0, none⟩), .pointer (some ⟨rb, 0, none⟩), .agg #[.int .i64 o.k, .string o.nm, .int .i64 o.ep, .int .i64 o.now, .int .i64 o.v.a, .int .i64 o.v.b, .int .i64 o.v.c, .int .i64 o.v.d]] wr.drew fun e w' => e = .returned (.bool true) ∧ Hid (P2 w w' NX pb rb)) := step_any (HI.out.below (Below.refl _ _).drew) o (HZ.out o (List.mem_of_getElem? ho))
      have hii : (i : Int) < (n : Int) := by omega
      have zz := HQ.out wr HI.out.bel
      have zd := HQ.out (wr.drewN 1) (below_drewN HI.out.bel 1)
      clear ho d0 d1 d2 d3 d4 d5 d6 d7
      go_upto_region 8 with fail
      go_cut [55] from 17 to 55 (fun s wx => s = .bool false ∧ Hid (P2 w wx NX pb rb))
      case first =>
        clear HI HQ
        obtain ⟨d0, d1, d2, d3, d4, d5, d6, d7⟩ := zz
        clear zd
        go_region_with (first
          | (go_at_call 11; refine HS.out.mono ?_; rintro e wA ⟨rfl, hA⟩; obtain ⟨nn, qq, cc, eA, KA⟩ := p2_all hA.out)
          | (go_at_call 13; refine KA.out.mono ?_; rintro e wB ⟨pB, cB, rfl, hB⟩; have eB := cell_below eA hB.out.1.1)
          | (go_at_call 12; refine (hB.out.2 _ (Below.refl _ _)).mono ?_; rintro e wC ⟨rfl, hC⟩; clear hB)
          | (go_at_call 14; refine (p2_live hC.out).mono ?_; rintro e wD ⟨pD, mD, cD, rfl, hD⟩)
          | (go_at_call 15; refine (hD.out.2 _ (Below.refl _ _)).mono ?_; rintro e wE ⟨pE, cE, rfl, hE⟩)
          | (go_at_call 12; refine (hE.out.2 _ (Below.refl _ _)).mono ?_; rintro e wF ⟨rfl, hF⟩; obtain ⟨a1, a2, a3, a4, KW⟩ := p2_whole hF.out; have q1 : ∀ w, (Op.equalIn 10000 32 (.agg #[.int .i64 a1, .int .i64 a2, .int .i64 a3, .int .i64 a4]) (.agg #[.int .i64 a1, .int .i64 a2, .int .i64 a3, .int .i64 a4])).run Try.prog w = .ok true w := fun w => (eq4 a1 a2 a3 a4 a1 a2 a3 a4 w).trans (by simp))
          | (go_at_call 16; refine KW.out.mono ?_; rintro e wG ⟨rfl, hG⟩)
          | (go_at_call 17; refine (hG.out.2 _ (Below.refl _ _)).mono ?_; rintro e wH ⟨rfl, hH⟩))
        all_goals (go_wp2_with fail; go_meet)
        all_goals exact ⟨by simp, hH⟩
      case rest =>
        obtain ⟨rfl, hP⟩ := hcut
        clear HQ HS zz zd HI
        go_wp2_with fail
        exact ⟨⟨i + 1, by omega, by simp, hP⟩, by simp [intOf]; omega⟩
    · obtain rfl : i = n := by omega
      have hii : ¬ (i : Int) < (i : Int) := by omega
      have hbel : Hid (Below w.heap.size w wr) := HI.out.bel
      clear HI
      go_wp2_with fail
      go_ret
      exact ⟨rfl, hbel.out⟩
end Go.Proofs.Ytihjmigjphljnaa
