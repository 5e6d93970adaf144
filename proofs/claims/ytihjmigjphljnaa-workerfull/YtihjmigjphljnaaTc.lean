/-
  Both tables that hold the same, shown: All, Live, Whole.
-/
import Derived.Test.YtihjmigjphljnaaTb
namespace Go.Proofs.Ytihjmigjphljnaa
open Go.RowKit Go.Maps Go.WideMaps
open Tk

def vB (v : V) : Obj := .cells #[.int .i64 v.a, .int .i64 v.b, .int .i64 v.c, .int .i64 v.d] 32 (0, 0)
section
variable {w0 w : World} {X : Nat → Option Obj} {pb rb : Nat}
/-- All against the document's list -/
theorem p2_all (h : P2 w0 w X pb rb) : ∃ n q0 c0, w.cell? ⟨rb, 0, none⟩ = some (.slice q0 n c0) ∧ Hid (Calls Try.prog 13 #[.pointer (some ⟨pb, 0, none⟩)] w fun e w1 => ∃ p c1, e = .returned (.slice p n c1) ∧ Hid ((Below w.heap.size w w1 ∧ Below w0.heap.size w0 w1) ∧ ∀ W, Below w1.heap.size w1 W → Calls Try.prog 12 #[.slice p n c1, .slice q0 n c0] W fun e w2 => e = .returned (.bool true) ∧ Hid (P2 w0 w2 X pb rb))) := by
  obtain ⟨D, h⟩ := h
  obtain ⟨q0, c0, hc, hv⟩ := h.list
  have hl := h.tab.2.1
  refine ⟨D.length, q0, c0, hc, ?_⟩
  obtain ⟨S, T, h1, -⟩ := h.both
  refine (all_any h1).mono ?_
  rintro e w1 ⟨p, c1, he, hh⟩
  refine ⟨p, c1, he, ⟨hh.out.2.1, h.bel.trans (hh.out.2.1.mono h.bel.size)⟩, fun W b => ?_⟩
  refine (same_any W _ c1 c0 p q0 D (hh.out.1.vr.below b) ((hv.below hh.out.2.1).below b) rfl (by omega)).mono ?_
  rintro e w2 ⟨he2, k2⟩
  exact ⟨he2, D, ((h.below hh.out.2.1).below b).below k2.out⟩
theorem p2_live (h : P2 w0 w X pb rb) : Calls Try.prog 14 #[.pointer (some ⟨pb, 0, none⟩)] w fun e w1 => ∃ p m c1, e = .returned (.slice p m c1) ∧ Hid (Below w0.heap.size w0 w1 ∧ ∀ W, Below w1.heap.size w1 W → Calls Try.prog 15 #[.pointer (some ⟨rb, 0, none⟩)] W fun e w2 => ∃ p2 c2, e = .returned (.slice p2 m c2) ∧ Hid (Below w0.heap.size w0 w2 ∧ ∀ W2, Below w2.heap.size w2 W2 → Calls Try.prog 12 #[.slice p m c1, .slice p2 m c2] W2 fun e w3 => e = .returned (.bool true) ∧ Hid (P2 w0 w3 X pb rb))) := by
  obtain ⟨D, h⟩ := h
  obtain ⟨S, T, h1, h2, -⟩ := h.both
  have hl := h1.len
  refine (live_any h1).mono ?_
  rintro e w1 ⟨p, m, c1, he, hh⟩
  obtain ⟨rfl, t1, t2, t3⟩ := hh.out
  refine ⟨p, _, c1, he, (h.below t2).bel, fun W b => ?_⟩
  refine (rlive_any ((h2.keepB t2).keepB b)).mono ?_
  rintro e w2 ⟨p2, m2, c2, he2, hh2⟩
  obtain ⟨rfl, u1, u2, u3⟩ := hh2.out
  refine ⟨p2, c2, he2, (((h.below t2).below b).below u2).bel, fun W2 b2 => ?_⟩
  refine (same_any W2 _ c1 c2 p p2 (D.filter Nd.lv) (((t1.below b).below u2).below b2) (u1.below b2) rfl (by have := List.length_filter_le Nd.lv D; omega)).mono ?_
  rintro e w3 ⟨he3, k3⟩
  exact ⟨he3, D, ((((h.below t2).below b).below u2).below b2).below k3.out⟩
theorem p2_whole (h : P2 w0 w X pb rb) : ∃ a b c d : Int, Hid (Calls Try.prog 16 #[.pointer (some ⟨pb, 0, none⟩)] w fun e w1 => e = .returned (.agg #[.int .i64 a, .int .i64 b, .int .i64 c, .int .i64 d]) ∧ Hid (Below w0.heap.size w0 w1 ∧ ∀ W, Below w1.heap.size w1 W → Calls Try.prog 17 #[.pointer (some ⟨rb, 0, none⟩)] W fun e w2 => e = .returned (.agg #[.int .i64 a, .int .i64 b, .int .i64 c, .int .i64 d]) ∧ Hid (P2 w0 w2 X pb rb))) := by
  obtain ⟨D, h⟩ := h
  obtain ⟨v, h1, h2⟩ := l2_whole h
  refine ⟨v.a, v.b, v.c, v.d, h1.mono ?_⟩
  rintro e w1 ⟨he, hh⟩
  refine ⟨he, hh.out.bel, fun W b => (h2 W (hh.out.below b)).mono ?_⟩
  rintro e w2 ⟨he2, h3⟩
  exact ⟨he2, D, h3.out⟩
end
end Go.Proofs.Ytihjmigjphljnaa
