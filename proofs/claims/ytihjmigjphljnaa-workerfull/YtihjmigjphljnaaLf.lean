/-
  Both tables in a law, apart. The law's step. Both tables that hold the same, shown: All, Live, Whole. WorkerFull's law.
-/
import Derived.Test.YtihjmigjphljnaaLa
import Derived.Test.YtihjmigjphljnaaBg
import Derived.Test.YtihjmigjphljnaaLd
import Derived.Deep.RegionWith
namespace Go.Proofs.Ytihjmigjphljnaa
open Go.RowKit Go.Maps Go.WideMaps
open Tk

/-- the program's table and the document's, apart; X: blocks that are kept -/
structure L2 (w0 w : World) (X : Nat → Option Obj) (pb rb : Nat) (D D' : List Nd) : Prop where
  bel : Below w0.heap.size w0 w
  both : ∃ S T, Tab w S pb D ∧ Ref w T rb D' ∧ (∀ k, S k → w0.heap.size ≤ k ∧ X k = none ∧ ¬ T k) ∧ ∀ k, T k → w0.heap.size ≤ k ∧ X k = none
  kept : ∀ k o, X k = some o → w.heap[k]? = some o
section
variable {w0 w w' : World} {X : Nat → Option Obj} {pb rb : Nat} {D D' D1 : List Nd} {S T S' T' : Nat → Prop}
theorem L2.stepP (b : Below w0.heap.size w0 w) (hk : ∀ k o, X k = some o → w.heap[k]? = some o) (hR : Ref w T rb D') (hS : ∀ k, S k → w0.heap.size ≤ k ∧ X k = none ∧ ¬ T k) (hT : ∀ k, T k → w0.heap.size ≤ k ∧ X k = none) (hl : Tab w' S' pb D1) (hst : Step S S' w w') : L2 w0 w' X pb rb D1 D' := by
  refine ⟨b.trans (hst.1.below b.size fun k h1 q => by have := (hS k q).1; omega), ⟨S', T, hl, hR.keep (fun k h1 => hst.1.block k (hR.2 k h1) fun q => (hS k q).2.2 h1) hst.1.size, fun k h1 => ?_, hT⟩, fun k o hx => ?_⟩
  · rcases hst.2 k h1 with h2 | h2
    · exact hS k h2
    · refine ⟨Nat.le_trans b.size h2, kept_lt hk h2, fun q => ?_⟩
      have := hR.2 k q
      omega
  · have h1 := hk k o hx
    refine (hst.1.block k (Array.getElem?_eq_some_iff.1 h1).1 fun q => ?_).trans h1
    rw [(hS k q).2.1] at hx
    cases hx
theorem L2.stepR (b : Below w0.heap.size w0 w) (hk : ∀ k o, X k = some o → w.heap[k]? = some o) (hL : Tab w S pb D) (hS : ∀ k, S k → w0.heap.size ≤ k ∧ X k = none ∧ ¬ T k) (hT : ∀ k, T k → w0.heap.size ≤ k ∧ X k = none) (hl : Ref w' T' rb D1) (hst : Step T T' w w') : L2 w0 w' X pb rb D D1 := by
  refine ⟨b.trans (hst.1.below b.size fun k h1 q => by have := (hT k q).1; omega), ⟨S, T', hL.keepK hst.1 fun k h1 => (hS k h1).2.2, hl, fun k h1 => ⟨(hS k h1).1, (hS k h1).2.1, fun q => ?_⟩, fun k h1 => ?_⟩, fun k o hx => ?_⟩
  · rcases hst.2 k q with h2 | h2
    · exact (hS k h1).2.2 h2
    · have := hL.2 k h1
      omega
  · rcases hst.2 k h1 with h2 | h2
    · exact hT k h2
    · exact ⟨Nat.le_trans b.size h2, kept_lt hk h2⟩
  · have h1 := hk k o hx
    refine (hst.1.block k (Array.getElem?_eq_some_iff.1 h1).1 fun q => ?_).trans h1
    rw [(hT k q).2] at hx
    cases hx
theorem L2.below (h : L2 w0 w X pb rb D D') (b : Below w.heap.size w w') : L2 w0 w' X pb rb D D' := by
  obtain ⟨S, T, h1, h2, h3, h4⟩ := h.both
  exact L2.stepP h.bel h.kept h2 h3 h4 (h1.keepB b) (Step.of_below S b)
/-- one more block that is kept -/
theorem L2.add {g : Nat} {o : Obj} (h : L2 w0 w X pb rb D D') (b : Below w.heap.size w w') (hg : w'.heap[g]? = some o) (hge : w.heap.size ≤ g) : L2 w0 w' (XS X g o) pb rb D D' := by
  obtain ⟨S, T, h1, h2, h3, h4⟩ := h.both
  have h' := h.below b
  refine ⟨h'.bel, ⟨S, T, h1.keepB b, h2.keepB b, fun k hk => ⟨(h3 k hk).1, ?_, (h3 k hk).2.2⟩, fun k hk => ⟨(h4 k hk).1, ?_⟩⟩, kept_add h.kept b hg⟩
  · unfold XS
    rw [if_neg]
    · exact (h3 k hk).2.1
    · have := h1.2 k hk
      omega
  · unfold XS
    rw [if_neg]
    · exact (h4 k hk).2
    · have := h2.2 k hk
      omega
/-- kept blocks may be forgotten -/
theorem L2.weak {Y : Nat → Option Obj} (h : L2 w0 w X pb rb D D') (hy : ∀ k o, Y k = some o → X k = some o) : L2 w0 w Y pb rb D D' := by
  obtain ⟨S, T, h1, h2, h3, h4⟩ := h.both
  have e : ∀ k, X k = none → Y k = none := fun k q => by
    cases hk : Y k with
    | none => rfl
    | some o => rw [hy k o hk] at q; cases q
  exact ⟨h.bel, ⟨S, T, h1, h2, fun k hk => ⟨(h3 k hk).1, e k (h3 k hk).2.1, (h3 k hk).2.2⟩, fun k hk => ⟨(h4 k hk).1, e k (h4 k hk).2⟩⟩, fun k o hk => h.kept k o (hy k o hk)⟩
theorem l2_reg (h : L2 w0 w X pb rb D D') (s : ByteArray) (hs : s.size ≤ 281474976710656) (ep now : Int) (v : V) :
    Calls Try.prog 18 #[.pointer (some ⟨pb, 0, none⟩), .string s, .int .i64 ep, .agg #[.int .i64 v.a, .int .i64 v.b, .int .i64 v.c, .int .i64 v.d], .int .i64 now] w fun e w' => e = ansR (regR D s ep v now).1 ∧ Hid (L2 w0 w' X pb rb (regR D s ep v now).2 D') := by
  obtain ⟨S, T, h1, h2, h3, h4⟩ := h.both
  exact (reg_any h1 s hs ep now v).mono fun e w' ⟨he, hh⟩ => ⟨he, by obtain ⟨S', hl, hst⟩ := hh.out; exact L2.stepP h.bel h.kept h2 h3 h4 hl hst⟩
theorem l2_rreg (h : L2 w0 w X pb rb D D') (s : ByteArray) (hs : s.size ≤ 281474976710656) (ep now : Int) (v : V) :
    Calls Try.prog 22 #[.pointer (some ⟨rb, 0, none⟩), .string s, .int .i64 ep, .agg #[.int .i64 v.a, .int .i64 v.b, .int .i64 v.c, .int .i64 v.d], .int .i64 now] w fun e w' => e = ansR (regR D' s ep v now).1 ∧ Hid (L2 w0 w' X pb rb D (regR D' s ep v now).2) := by
  obtain ⟨S, T, h1, h2, h3, h4⟩ := h.both
  exact (rreg_any h2 s hs ep now v).mono fun e w' ⟨he, hh⟩ => ⟨he, by obtain ⟨T', hl, hst⟩ := hh.out; exact L2.stepR h.bel h.kept h1 h3 h4 hl hst⟩
theorem l2_beat (h : L2 w0 w X pb rb D D') (s : ByteArray) (hs : s.size ≤ 281474976710656) (ep now : Int) :
    Calls Try.prog 19 #[.pointer (some ⟨pb, 0, none⟩), .string s, .int .i64 ep, .int .i64 now] w fun e w' => e = .returned (.int .i64 (beatR D s.data.toList ep now).1) ∧ Hid (L2 w0 w' X pb rb (beatR D s.data.toList ep now).2 D') := by
  obtain ⟨S, T, h1, h2, h3, h4⟩ := h.both
  exact (beat_any h1 s hs ep now).mono fun e w' ⟨he, hh⟩ => ⟨he, by obtain ⟨S', hl, hst⟩ := hh.out; exact L2.stepP h.bel h.kept h2 h3 h4 hl hst⟩
theorem l2_rbeat (h : L2 w0 w X pb rb D D') (s : ByteArray) (ep now : Int) :
    Calls Try.prog 23 #[.pointer (some ⟨rb, 0, none⟩), .string s, .int .i64 ep, .int .i64 now] w fun e w' => e = .returned (.int .i64 (beatR D' s.data.toList ep now).1) ∧ Hid (L2 w0 w' X pb rb D (beatR D' s.data.toList ep now).2) := by
  obtain ⟨S, T, h1, h2, h3, h4⟩ := h.both
  exact (rbeat_any h2 s ep now).mono fun e w' ⟨he, hh⟩ => ⟨he, by obtain ⟨T', hl, hst⟩ := hh.out; exact L2.stepR h.bel h.kept h1 h3 h4 hl hst⟩
theorem l2_get (h : L2 w0 w X pb rb D D') (s : ByteArray) (hs : s.size ≤ 281474976710656) :
    Calls Try.prog 21 #[.pointer (some ⟨pb, 0, none⟩), .string s] w fun e w' => e = ansN (getR D s.data.toList) ∧ Hid (L2 w0 w' X pb rb D D') := by
  obtain ⟨S, T, h1, h2, h3, h4⟩ := h.both
  exact (get_any h1 s hs).mono fun e w' ⟨he, hb⟩ => ⟨he, h.below hb⟩
theorem l2_rget (h : L2 w0 w X pb rb D D') (s : ByteArray) :
    Calls Try.prog 26 #[.pointer (some ⟨rb, 0, none⟩), .string s] w fun e w' => e = ansN (getR D' s.data.toList) ∧ Hid (L2 w0 w' X pb rb D D') := by
  obtain ⟨S, T, h1, h2, h3, h4⟩ := h.both
  exact (rget_any h2 s).mono fun e w' ⟨he, hb⟩ => ⟨he, h.below hb⟩
/-- Expire of both, one behind the other -/
theorem l2_exp (h : L2 w0 w X pb rb D D) (now : Int) :
    Calls Try.prog 20 #[.pointer (some ⟨pb, 0, none⟩), .int .i64 now] w fun e w1 => ∃ p m c1, e = .returned (.slice p m c1) ∧ Hid ((∀ k o, X k = some o → w1.heap[k]? = some o) ∧ ∀ W, Below w1.heap.size w1 W → Calls Try.prog 25 #[.pointer (some ⟨rb, 0, none⟩), .int .i64 now] W fun e w2 => ∃ p2 c2, e = .returned (.slice p2 m c2) ∧ Hid ((∀ k o, X k = some o → w2.heap[k]? = some o) ∧ ∀ W2, Below w2.heap.size w2 W2 → Calls Try.prog 24 #[.slice p m c1, .slice p2 m c2] W2 fun e w3 => e = .returned (.bool true) ∧ Hid (L2 w0 w3 X pb rb (expR D now) (expR D now)))) := by
  obtain ⟨S, T, h1, h2, h3, h4⟩ := h.both
  have hl := h1.len
  refine (exp_any h1 now).mono ?_
  rintro e w1 ⟨p, c1, he, hh⟩
  obtain ⟨S', t1, t2, t3, t4⟩ := hh.out
  have hA := L2.stepP h.bel h.kept h2 h3 h4 t1 t2
  refine ⟨p, _, c1, he, hA.kept, fun W b => ?_⟩
  have r2 : Ref w1 T rb D := h2.keep (fun k q => t2.1.block k (h2.2 k q) fun q2 => (h3 k q2).2.2 q) t2.1.size
  refine (rexp_any (r2.keepB b) now).mono ?_
  rintro e w2 ⟨p2, m2, c2, he2, hh2⟩
  obtain ⟨rfl, u1, u2, u3, u4⟩ := hh2.out
  have hSR1 : SR w2 (.slice p (expN D now).length c1) ((expN D now).map Nd.k) := (t3.below b).keep fun j q => u3.1.block j (Nat.lt_of_lt_of_le (t3.lt q) b.size) fun q2 => by
    have := (t4 j q).1
    have := h2.2 j q2
    omega
  have hB : L2 w0 w2 X pb rb (expR D now) (expR D now) := by
    have hW := hA.below b
    have sS : ∀ k, S' k → w0.heap.size ≤ k ∧ X k = none ∧ ¬ T k := fun k q => by
      rcases t2.2 k q with q2 | q2
      · exact h3 k q2
      · exact ⟨Nat.le_trans h.bel.size q2, kept_lt h.kept q2, fun q3 => by have := h2.2 k q3; omega⟩
    exact L2.stepR hW.bel hW.kept (t1.keepB b) sS h4 u2 u3
  refine ⟨p2, c2, he2, hB.kept, fun W2 b2 => ?_⟩
  refine (sames_any W2 (expN D now).length c1 c2 p p2 _ (hSR1.below b2) (u1.below b2) (by have := List.length_filter_le (Nd.lost now) D; unfold expN; omega)).mono ?_
  rintro e w3 ⟨he3, k3⟩
  exact ⟨he3, (hB.below b2).below k3.out⟩
/-- the document's list as it lies -/
theorem L2.list (h : L2 w0 w X pb rb D D') : ∃ q c, w.cell? ⟨rb, 0, none⟩ = some (.slice q D'.length c) ∧ VR w q D' := by
  obtain ⟨S, T, -, ⟨⟨q, n, c, h1, -⟩, -⟩, -⟩ := h.both
  have := h1.n
  subst this
  exact ⟨q, c, c1 h1.cell, h1.row.vr⟩
theorem L2.tab (h : L2 w0 w X pb rb D D') : Srt Nd.k D ∧ D.length ≤ 12 ∧ ∀ n ∈ D, n.ok := by
  obtain ⟨S, T, h1, -⟩ := h.both
  exact ⟨h1.srt, h1.len, h1.ok⟩
theorem l2_all (h : L2 w0 w X pb rb D D') :
    Calls Try.prog 13 #[.pointer (some ⟨pb, 0, none⟩)] w fun e w' => ∃ q c', e = .returned (.slice q D.length c') ∧ Hid (L2 w0 w' X pb rb D D' ∧ VR w' q D) := by
  obtain ⟨S, T, h1, -⟩ := h.both
  exact (all_any h1).mono fun e w' ⟨q, c', he, hh⟩ => ⟨q, c', he, h.below hh.out.2.1, hh.out.1.vr⟩
/-- Live of both, and Same of them -/
theorem l2_live (h : L2 w0 w X pb rb D D) :
    Calls Try.prog 14 #[.pointer (some ⟨pb, 0, none⟩)] w fun e w1 => ∃ p m c1, e = .returned (.slice p m c1) ∧ Hid (∀ W, Below w1.heap.size w1 W → Calls Try.prog 15 #[.pointer (some ⟨rb, 0, none⟩)] W fun e w2 => ∃ p2 c2, e = .returned (.slice p2 m c2) ∧ Hid (∀ W2, Below w2.heap.size w2 W2 → Calls Try.prog 12 #[.slice p m c1, .slice p2 m c2] W2 fun e w3 => e = .returned (.bool true) ∧ Hid (L2 w0 w3 X pb rb D D))) := by
  obtain ⟨S, T, h1, h2, -⟩ := h.both
  have hl := h1.len
  refine (live_any h1).mono ?_
  rintro e w1 ⟨p, m, c1, he, hh⟩
  obtain ⟨rfl, t1, t2, t3⟩ := hh.out
  refine ⟨p, _, c1, he, fun W b => ?_⟩
  refine (rlive_any ((h2.keepB t2).keepB b)).mono ?_
  rintro e w2 ⟨p2, m2, c2, he2, hh2⟩
  obtain ⟨rfl, u1, u2, u3⟩ := hh2.out
  refine ⟨p2, c2, he2, fun W2 b2 => ?_⟩
  refine (same_any W2 _ c1 c2 p p2 (D.filter Nd.lv) (((t1.below b).below u2).below b2) (u1.below b2) rfl (by have := List.length_filter_le Nd.lv D; omega)).mono ?_
  rintro e w3 ⟨he3, k3⟩
  exact ⟨he3, ((((h.below t2).below b).below u2).below b2).below k3.out⟩
theorem l2_whole (h : L2 w0 w X pb rb D D) : ∃ v : V, (Calls Try.prog 16 #[.pointer (some ⟨pb, 0, none⟩)] w fun e w' => e = .returned (.agg #[.int .i64 v.a, .int .i64 v.b, .int .i64 v.c, .int .i64 v.d]) ∧ Hid (L2 w0 w' X pb rb D D)) ∧ ∀ W, L2 w0 W X pb rb D D → Calls Try.prog 17 #[.pointer (some ⟨rb, 0, none⟩)] W fun e w' => e = .returned (.agg #[.int .i64 v.a, .int .i64 v.b, .int .i64 v.c, .int .i64 v.d]) ∧ Hid (L2 w0 w' X pb rb D D) := by
  refine ⟨whl (D.filter Nd.lv), ?_, fun W hW => ?_⟩
  · obtain ⟨S, T, h1, -⟩ := h.both
    exact (whole_any h1).mono fun e w' ⟨he, hb⟩ => ⟨he, h.below hb⟩
  · obtain ⟨S, T, -, h2, -⟩ := hW.both
    exact (rwhole_any h2).mono fun e w' ⟨he, hb⟩ => ⟨he, hW.below hb⟩
/-- the document's new table -/
theorem ref_new (w : World) : Ref (w.alloc (.cells #[.slice none 0 0] 29 (0, 0))) (· = w.heap.size) w.heap.size [] :=
  ⟨⟨none, 0, 0, ⟨new0, GRow.nil _ _ _ _ _, List.Pairwise.nil, Nat.zero_le _, fun _ h => nomatch h⟩, fun k hk => by
    rcases hk with h | h
    · exact h
    · cases h⟩, fun k hk => by rw [show k = w.heap.size from hk, World.size_alloc]; omega⟩
theorem l2_new (b : Below w0.heap.size w0 w) (hX : ∀ k o, X k = some o → w.heap[k]? = some o) : L2 w0 ((w.alloc (.cells #[.map none, .slice none 0 0, .map none] 63 (0, 0))).alloc (.cells #[.slice none 0 0] 29 (0, 0))) X w.heap.size (w.heap.size + 1) [] [] := by
  have h1 := tab_new w
  have h2 := ref_new (w.alloc (.cells #[.map none, .slice none 0 0, .map none] 63 (0, 0)))
  rw [World.size_alloc] at h2
  have b1 : Below w.heap.size w (w.alloc (.cells #[.map none, .slice none 0 0, .map none] 63 (0, 0))) := (Below.refl _ _).alloc (Nat.le_refl _) _
  have b2 : Below (w.alloc (.cells #[.map none, .slice none 0 0, .map none] 63 (0, 0))).heap.size (w.alloc (.cells #[.map none, .slice none 0 0, .map none] 63 (0, 0))) ((w.alloc (.cells #[.map none, .slice none 0 0, .map none] 63 (0, 0))).alloc (.cells #[.slice none 0 0] 29 (0, 0))) := (Below.refl _ _).alloc (Nat.le_refl _) _
  have hb := b.size
  refine ⟨(b.alloc b.size _).alloc (by rw [World.size_alloc]; omega) _, ⟨_, _, h1.keepB b2, h2, fun k hk => ?_, fun k hk => ?_⟩, fun k o hk => at_alloc (at_alloc (hX k o hk))⟩
  · have hk' : k = w.heap.size := hk
    exact ⟨by omega, kept_lt hX (by omega), fun q => by have q' : k = w.heap.size + 1 := q; omega⟩
  · have hk' : k = w.heap.size + 1 := hk
    exact ⟨by omega, kept_lt hX (by omega)⟩
end
end Go.Proofs.Ytihjmigjphljnaa

namespace Go.Proofs.Ytihjmigjphljnaa
open Go.RowKit Go.Maps Go.WideMaps
open Tk

/-- both hold the same -/
def P2 (w0 w : World) (X : Nat → Option Obj) (pb rb : Nat) : Prop := ∃ D, L2 w0 w X pb rb D D
theorem P2.below {w0 w W : World} {X : Nat → Option Obj} {pb rb : Nat} (h : P2 w0 w X pb rb) (b : Below w.heap.size w W) : P2 w0 W X pb rb := by
  obtain ⟨D, h⟩ := h
  exact ⟨D, h.below b⟩
theorem P2.bel {w0 w : World} {X : Nat → Option Obj} {pb rb : Nat} (h : P2 w0 w X pb rb) : Below w0.heap.size w0 w := by
  obtain ⟨D, h⟩ := h
  exact h.bel
theorem P2.kept {w0 w : World} {X : Nat → Option Obj} {pb rb : Nat} (h : P2 w0 w X pb rb) : ∀ k o, X k = some o → w.heap[k]? = some o := by
  obtain ⟨D, h⟩ := h
  exact h.kept
theorem L2.drop {w0 w W : World} {X : Nat → Option Obj} {pb rb : Nat} {D D' : List Nd} {ob : Obj} (hk : ∀ k o, X k = some o → w.heap[k]? = some o) (h : L2 w0 W (XS X w.heap.size ob) pb rb D D') : L2 w0 W X pb rb D D' := h.weak fun k o hx => by
  unfold XS
  rw [if_neg]
  · exact hx
  · rintro rfl
    rw [kept_lt hk (Nat.le_refl _)] at hx
    cases hx
theorem nB_cells {w : World} {g : Nat} {s : ByteArray} {ep a b c d sn : Int} {lv : Bool} (h : w.heap[g]? = some (.cells #[.string s, .int .i64 ep, .int .i64 a, .int .i64 b, .int .i64 c, .int .i64 d, .int .i64 sn, .bool lv] 46 (0, 0))) : w.cell? ⟨g, 0, none⟩ = some (.string s) ∧ w.cell? ⟨g, 1, none⟩ = some (.int .i64 ep) ∧ w.cell? ⟨g, 2, none⟩ = some (.int .i64 a) ∧ w.cell? ⟨g, 3, none⟩ = some (.int .i64 b) ∧ w.cell? ⟨g, 4, none⟩ = some (.int .i64 c) ∧ w.cell? ⟨g, 5, none⟩ = some (.int .i64 d) ∧ w.cell? ⟨g, 6, none⟩ = some (.int .i64 sn) ∧ w.cell? ⟨g, 7, none⟩ = some (.bool lv) := by
  refine ⟨?_, ?_, ?_, ?_, ?_, ?_, ?_, ?_⟩ <;> (rw [cell_of h]; rfl)
section
variable {w0 w : World} {X : Nat → Option Obj} {pb rb : Nat} {D : List Nd}
theorem l2_box (h : L2 w0 w X pb rb D D) (o : Opr) : L2 w0 (w.alloc (oB o)) (XS X w.heap.size (oB o)) pb rb D D := h.add ((Below.refl _ w).alloc (Nat.le_refl _) _) new0 (Nat.le_refl _)
theorem l2_op {W : World} {D1 D2 : List Nd} {o : Opr} {g : Nat} (h : L2 w0 W (XS X g (oB o)) pb rb D1 D2) : W.heap[g]? = some (oB o) := h.kept _ _ (by unfold XS; rw [if_pos rfl])
set_option maxHeartbeats 4000000 in
set_option maxRecDepth 100000 in
theorem step1 (h : L2 w0 w X pb rb D D) (s : ByteArray) (ep now : Int) (v : V) (hs : s.size ≤ 281474976710656) :
    Calls Try.prog 11 #[.pointer (some ⟨pb, 0, none⟩), .pointer (some ⟨rb, 0, none⟩), .agg #[.int .i64 1, .string s, .int .i64 ep, .int .i64 now, .int .i64 v.a, .int .i64 v.b, .int .i64 v.c, .int .i64 v.d]] w fun e w' => e = .returned (.bool true) ∧ Hid (P2 w0 w' X pb rb) := by
  obtain ⟨⟨b, r⟩, hbr⟩ : ∃ x, x = (regR D s ep v now).1 := ⟨_, rfl⟩
  have H0 : Hid (L2 w0 (w.alloc (oB ⟨1, s, ep, now, v⟩)) (XS X w.heap.size (oB ⟨1, s, ep, now, v⟩)) pb rb D D) := l2_box h _
  have KP : Hid (∀ W, L2 w0 W (XS X w.heap.size (oB ⟨1, s, ep, now, v⟩)) pb rb D D → Calls Try.prog 18 #[.pointer (some ⟨pb, 0, none⟩), .string s, .int .i64 ep, .agg #[.int .i64 v.a, .int .i64 v.b, .int .i64 v.c, .int .i64 v.d], .int .i64 now] W fun e w' => e = .returned (.tuple #[.bool b, .int .i64 r]) ∧ Hid (L2 w0 w' (XS X w.heap.size (oB ⟨1, s, ep, now, v⟩)) pb rb (regR D s ep v now).2 D)) := fun W hW => by
    have := l2_reg hW s hs ep now v
    rw [← hbr] at this
    exact this
  have KR : Hid (∀ W, L2 w0 W (XS X w.heap.size (oB ⟨1, s, ep, now, v⟩)) pb rb (regR D s ep v now).2 D → Calls Try.prog 22 #[.pointer (some ⟨rb, 0, none⟩), .string s, .int .i64 ep, .agg #[.int .i64 v.a, .int .i64 v.b, .int .i64 v.c, .int .i64 v.d], .int .i64 now] W fun e w' => e = .returned (.tuple #[.bool b, .int .i64 r]) ∧ Hid (P2 w0 w' X pb rb)) := fun W hW => by
    have := l2_rreg hW s hs ep now v
    rw [← hbr] at this
    exact this.mono fun e w' ⟨he, hh⟩ => ⟨he, _, L2.drop h.kept hh.out⟩
  obtain ⟨d0, d1, d2, d3, d4, d5, d6, d7⟩ := oB_cells (l2_op H0.out)
  clear h hs hbr
  go_enter Try.func11, Try.ntmps11
  go_upto_region 1 with fail
  unfold oB at H0 KP KR d0 d1 d2 d3 d4 d5 d6 d7
  generalize w.alloc (.cells #[.int .i64 1, .string s, .int .i64 ep, .int .i64 now, .int .i64 v.a, .int .i64 v.b, .int .i64 v.c, .int .i64 v.d] 34) = W1 at *
  go_upto_region 4 with (go_at_call 18; refine (KP.out _ H0.out).mono ?_; rintro e w2 ⟨rfl, h2⟩)
  clear d0 d1 d2 d3 d4 d5 d6 d7 H0 KP
  obtain ⟨d0, d1, d2, d3, d4, d5, d6, d7⟩ := oB_cells (o := ⟨1, s, ep, now, v⟩) (l2_op (o := ⟨1, s, ep, now, v⟩) h2.out)
  simp only at d0 d1 d2 d3 d4 d5 d6 d7
  go_wp2_with (go_at_call 22; refine (KR.out _ h2.out).mono ?_; rintro e w3 ⟨rfl, h3⟩)
  go_ret
  exact ⟨by simp, h3⟩
set_option maxHeartbeats 4000000 in
set_option maxRecDepth 100000 in
theorem step2 (h : L2 w0 w X pb rb D D) (s : ByteArray) (ep now : Int) (v : V) (hs : s.size ≤ 281474976710656) :
    Calls Try.prog 11 #[.pointer (some ⟨pb, 0, none⟩), .pointer (some ⟨rb, 0, none⟩), .agg #[.int .i64 2, .string s, .int .i64 ep, .int .i64 now, .int .i64 v.a, .int .i64 v.b, .int .i64 v.c, .int .i64 v.d]] w fun e w' => e = .returned (.bool true) ∧ Hid (P2 w0 w' X pb rb) := by
  obtain ⟨r, hbr⟩ : ∃ x, x = (beatR D s.data.toList ep now).1 := ⟨_, rfl⟩
  have H0 : Hid (L2 w0 (w.alloc (oB ⟨2, s, ep, now, v⟩)) (XS X w.heap.size (oB ⟨2, s, ep, now, v⟩)) pb rb D D) := l2_box h _
  have KP : Hid (∀ W, L2 w0 W (XS X w.heap.size (oB ⟨2, s, ep, now, v⟩)) pb rb D D → Calls Try.prog 19 #[.pointer (some ⟨pb, 0, none⟩), .string s, .int .i64 ep, .int .i64 now] W fun e w' => e = .returned (.int .i64 r) ∧ Hid (L2 w0 w' (XS X w.heap.size (oB ⟨2, s, ep, now, v⟩)) pb rb (beatR D s.data.toList ep now).2 D)) := fun W hW => by
    have := l2_beat hW s hs ep now
    rw [← hbr] at this
    exact this
  have KR : Hid (∀ W, L2 w0 W (XS X w.heap.size (oB ⟨2, s, ep, now, v⟩)) pb rb (beatR D s.data.toList ep now).2 D → Calls Try.prog 23 #[.pointer (some ⟨rb, 0, none⟩), .string s, .int .i64 ep, .int .i64 now] W fun e w' => e = .returned (.int .i64 r) ∧ Hid (P2 w0 w' X pb rb ∧ w'.heap[w.heap.size]? = some (oB ⟨2, s, ep, now, v⟩))) := fun W hW => by
    have := l2_rbeat hW s ep now
    rw [← hbr] at this
    exact this.mono fun e w' ⟨he, hh⟩ => ⟨he, ⟨_, L2.drop h.kept hh.out⟩, l2_op hh.out⟩
  have SS : Hid (∀ W : World, W.heap[w.heap.size]? = some (oB ⟨2, s, ep, now, v⟩) → W.cell? ⟨w.heap.size, 1, none⟩ = some (.string s) ∧ W.cell? ⟨w.heap.size, 2, none⟩ = some (.int .i64 ep) ∧ W.cell? ⟨w.heap.size, 3, none⟩ = some (.int .i64 now)) := fun W hW => by
    obtain ⟨-, d1, d2, d3, -⟩ := oB_cells hW
    exact ⟨d1, d2, d3⟩
  have HB : Hid (∀ W D1 D2, L2 w0 W (XS X w.heap.size (oB ⟨2, s, ep, now, v⟩)) pb rb D1 D2 → W.heap[w.heap.size]? = some (oB ⟨2, s, ep, now, v⟩)) := fun W D1 D2 hW => l2_op hW
  have zz := SS.out _ (HB.out _ _ _ H0.out)
  have zd := SS.out ((w.alloc (oB ⟨2, s, ep, now, v⟩)).drewN 1) (HB.out (w.alloc (oB ⟨2, s, ep, now, v⟩)) _ _ H0.out)
  have BX := KP.out ((w.alloc (oB ⟨2, s, ep, now, v⟩)).drewN 1) (H0.out.below (below_drewN (Below.refl _ _) 1))
  obtain ⟨d0, -⟩ := oB_cells (HB.out _ _ _ H0.out)
  clear h hs hbr H0 KP
  unfold oB at zz zd BX d0
  simp only at zz zd BX d0
  go_enter Try.func11, Try.ntmps11
  go_upto_region 7 with fail
  go_region_held3 (fun W : World => W.cell? ⟨w.heap.size, 1, none⟩ = some (.string s) ∧ W.cell? ⟨w.heap.size, 2, none⟩ = some (.int .i64 ep) ∧ W.cell? ⟨w.heap.size, 3, none⟩ = some (.int .i64 now)) (first | (with_reducible assumption) | (with_reducible exact zd) | (exact zd) | (exact zz) | go_keep) (first
    | (go_at_call 19; refine BX.mono ?_; rintro e w2 ⟨rfl, h2⟩; have zz := SS.out _ (HB.out _ _ _ h2.out))
    | (go_at_call 23; refine (KR.out _ h2.out).mono ?_; rintro e w3 ⟨rfl, h3⟩; have zz := SS.out _ h3.out.2))
  all_goals go_wp2_with fail
  all_goals go_ret
  all_goals exact ⟨by simp, h3.out.1⟩
set_option maxHeartbeats 4000000 in
set_option maxRecDepth 100000 in
theorem step3 (h : L2 w0 w X pb rb D D) (s : ByteArray) (ep now : Int) (v : V) :
    Calls Try.prog 11 #[.pointer (some ⟨pb, 0, none⟩), .pointer (some ⟨rb, 0, none⟩), .agg #[.int .i64 3, .string s, .int .i64 ep, .int .i64 now, .int .i64 v.a, .int .i64 v.b, .int .i64 v.c, .int .i64 v.d]] w fun e w' => e = .returned (.bool true) ∧ Hid (P2 w0 w' X pb rb) := by
  have H0 : Hid (L2 w0 (w.alloc (oB ⟨3, s, ep, now, v⟩)) (XS X w.heap.size (oB ⟨3, s, ep, now, v⟩)) pb rb D D) := l2_box h _
  have hXX : XS X w.heap.size (oB ⟨3, s, ep, now, v⟩) w.heap.size = some (oB ⟨3, s, ep, now, v⟩) := if_pos rfl
  have SS : Hid (∀ W : World, (∀ k o, XS X w.heap.size (oB ⟨3, s, ep, now, v⟩) k = some o → W.heap[k]? = some o) → W.cell? ⟨w.heap.size, 3, none⟩ = some (.int .i64 now)) := fun W hW => by
    obtain ⟨-, -, -, d3, -⟩ := oB_cells (hW _ _ hXX)
    exact d3
  have HE : Hid (Calls Try.prog 20 #[.pointer (some ⟨pb, 0, none⟩), .int .i64 now] ((w.alloc (oB ⟨3, s, ep, now, v⟩)).drewN 1) fun e w1 => ∃ p m c1, e = .returned (.slice p m c1) ∧ Hid ((∀ k o, XS X w.heap.size (oB ⟨3, s, ep, now, v⟩) k = some o → w1.heap[k]? = some o) ∧ ∀ W, Below w1.heap.size w1 W → Calls Try.prog 25 #[.pointer (some ⟨rb, 0, none⟩), .int .i64 now] W fun e w2 => ∃ p2 c2, e = .returned (.slice p2 m c2) ∧ Hid ((∀ k o, XS X w.heap.size (oB ⟨3, s, ep, now, v⟩) k = some o → w2.heap[k]? = some o) ∧ ∀ W2, Below w2.heap.size w2 W2 → Calls Try.prog 24 #[.slice p m c1, .slice p2 m c2] W2 fun e w3 => e = .returned (.bool true) ∧ Hid (P2 w0 w3 X pb rb ∧ ∀ k o, XS X w.heap.size (oB ⟨3, s, ep, now, v⟩) k = some o → w3.heap[k]? = some o)))) := by
    refine (l2_exp (H0.out.below (below_drewN (Below.refl _ _) 1)) now).mono ?_
    rintro e w1 ⟨p, m, c1, he, h1⟩
    refine ⟨p, m, c1, he, h1.out.1, fun W b => (h1.out.2 W b).mono ?_⟩
    rintro e w2 ⟨p2, c2, he2, h2⟩
    refine ⟨p2, c2, he2, h2.out.1, fun W2 b2 => (h2.out.2 W2 b2).mono ?_⟩
    rintro e w3 ⟨he3, h3⟩
    exact ⟨he3, ⟨_, L2.drop h.kept h3.out⟩, h3.out.kept⟩
  have zz := SS.out _ H0.out.kept
  have zd := SS.out ((w.alloc (oB ⟨3, s, ep, now, v⟩)).drewN 1) (fun k o hk => H0.out.kept k o hk)
  have d0 : (w.alloc (oB ⟨3, s, ep, now, v⟩)).cell? ⟨w.heap.size, 0, none⟩ = some (.int .i64 3) := (oB_cells (H0.out.kept _ _ hXX)).1
  have BX := HE.out
  clear h H0 hXX HE
  unfold oB at zz zd BX d0
  simp only at zz zd BX d0
  go_enter Try.func11, Try.ntmps11
  go_upto_region 9 with fail
  go_region_held3 (fun W : World => W.cell? ⟨w.heap.size, 3, none⟩ = some (.int .i64 now)) (first | (with_reducible assumption) | (with_reducible exact zd) | (exact zd) | (exact zz) | go_keep) (first
    | (go_at_call 20; refine BX.mono ?_; rintro e w2 ⟨p, m, c1, rfl, h2⟩; have zz := SS.out _ h2.out.1)
    | (go_at_call 25; refine (h2.out.2 _ (Below.refl _ _)).mono ?_; rintro e w3 ⟨p2, c2, rfl, h3⟩; have zz := SS.out _ h3.out.1)
    | (go_at_call 24; refine (h3.out.2 _ (Below.refl _ _)).mono ?_; rintro e w4 ⟨rfl, h4⟩; have zz := SS.out _ h4.out.2))
  all_goals go_wp2_with fail
  all_goals go_ret
  all_goals exact ⟨by simp, h4.out.1⟩
set_option maxHeartbeats 4000000 in
set_option maxRecDepth 100000 in
theorem step4 (h : L2 w0 w X pb rb D D) (s : ByteArray) (ep now : Int) (v : V) (hs : s.size ≤ 281474976710656) :
    Calls Try.prog 11 #[.pointer (some ⟨pb, 0, none⟩), .pointer (some ⟨rb, 0, none⟩), .agg #[.int .i64 4, .string s, .int .i64 ep, .int .i64 now, .int .i64 v.a, .int .i64 v.b, .int .i64 v.c, .int .i64 v.d]] w fun e w' => e = .returned (.bool true) ∧ Hid (P2 w0 w' X pb rb) := by
  have H0 : Hid (L2 w0 (w.alloc (oB ⟨4, s, ep, now, v⟩)) (XS X w.heap.size (oB ⟨4, s, ep, now, v⟩)) pb rb D D) := l2_box h _
  obtain ⟨⟨x, r⟩, hx⟩ : ∃ x, x = getR D s.data.toList := ⟨_, rfl⟩
  have KP : Hid (∀ W, L2 w0 W (XS X w.heap.size (oB ⟨4, s, ep, now, v⟩)) pb rb D D → Calls Try.prog 21 #[.pointer (some ⟨pb, 0, none⟩), .string s] W fun e w' => e = .returned (.tuple #[.agg #[.string x.nm, .int .i64 x.ep, .int .i64 x.v.a, .int .i64 x.v.b, .int .i64 x.v.c, .int .i64 x.v.d, .int .i64 x.sn, .bool x.lv], .int .i64 r]) ∧ Hid (L2 w0 w' (XS X w.heap.size (oB ⟨4, s, ep, now, v⟩)) pb rb D D)) := fun W hW => by
    have := l2_get hW s hs
    rw [← hx] at this
    exact this
  have KR : Hid (∀ W, L2 w0 W (XS X w.heap.size (oB ⟨4, s, ep, now, v⟩)) pb rb D D → Calls Try.prog 26 #[.pointer (some ⟨rb, 0, none⟩), .string s] W fun e w' => e = .returned (.tuple #[.agg #[.string x.nm, .int .i64 x.ep, .int .i64 x.v.a, .int .i64 x.v.b, .int .i64 x.v.c, .int .i64 x.v.d, .int .i64 x.sn, .bool x.lv], .int .i64 r]) ∧ Hid (L2 w0 w' (XS X w.heap.size (oB ⟨4, s, ep, now, v⟩)) pb rb D D ∧ Below W.heap.size W w')) := fun W hW => by
    have h1 := l2_rget hW s
    obtain ⟨S, T, t1, t2, t3, t4⟩ := hW.both
    have h2 := rget_any t2 s
    rw [← hx] at h2
    exact h2.mono fun e w' ⟨he, hb⟩ => ⟨he, hW.below hb, hb⟩
  have HD : Hid (∀ W, L2 w0 W (XS X w.heap.size (oB ⟨4, s, ep, now, v⟩)) pb rb D D → P2 w0 W X pb rb) := fun W hW => ⟨D, L2.drop h.kept hW⟩
  have q46 := eq46 x.nm x.ep x.v.a x.v.b x.v.c x.v.d x.sn x.lv
  obtain ⟨d0, d1, -⟩ := oB_cells (l2_op H0.out)
  clear h hs hx
  go_enter Try.func11, Try.ntmps11
  go_upto_region 1 with fail
  unfold oB at H0 KP KR HD d0 d1
  simp only at d0 d1
  generalize w.alloc (.cells #[.int .i64 4, .string s, .int .i64 ep, .int .i64 now, .int .i64 v.a, .int .i64 v.b, .int .i64 v.c, .int .i64 v.d] 34) = W1 at *
  go_upto_region 12 with (go_at_call 21; refine (KP.out _ H0.out).mono ?_; rintro e w2 ⟨rfl, h2⟩)
  have b2 : Below w2.heap.size w2 (w2.alloc (.cells #[.string x.nm, .int .i64 x.ep, .int .i64 x.v.a, .int .i64 x.v.b, .int .i64 x.v.c, .int .i64 x.v.d, .int .i64 x.sn, .bool x.lv] 46)) := (Below.refl _ _).alloc (Nat.le_refl _) _
  have H3 : Hid _ := h2.out.below b2
  have Z3 : Hid ((w2.alloc (.cells #[.string x.nm, .int .i64 x.ep, .int .i64 x.v.a, .int .i64 x.v.b, .int .i64 x.v.c, .int .i64 x.v.d, .int .i64 x.sn, .bool x.lv] 46)).heap[w2.heap.size]? = some (.cells #[.string x.nm, .int .i64 x.ep, .int .i64 x.v.a, .int .i64 x.v.b, .int .i64 x.v.c, .int .i64 x.v.d, .int .i64 x.sn, .bool x.lv] 46 (0, 0))) := new0
  clear d0 d1 H0 KP h2 b2
  generalize (w2.alloc (.cells #[.string x.nm, .int .i64 x.ep, .int .i64 x.v.a, .int .i64 x.v.b, .int .i64 x.v.c, .int .i64 x.v.d, .int .i64 x.sn, .bool x.lv] 46)) = W3 at *
  generalize w2.heap.size = g3 at *
  obtain ⟨d0, d1, -⟩ := oB_cells (o := ⟨4, s, ep, now, v⟩) (l2_op (o := ⟨4, s, ep, now, v⟩) H3.out)
  simp only at d0 d1
  go_upto_region 13 with (go_at_call 26; refine (KR.out _ H3.out).mono ?_; rintro e w4 ⟨rfl, h4⟩)
  have b4 : Below w4.heap.size w4 (w4.alloc (.cells #[.string x.nm, .int .i64 x.ep, .int .i64 x.v.a, .int .i64 x.v.b, .int .i64 x.v.c, .int .i64 x.v.d, .int .i64 x.sn, .bool x.lv] 46)) := (Below.refl _ _).alloc (Nat.le_refl _) _
  have HF : Hid (P2 w0 (w4.alloc (.cells #[.string x.nm, .int .i64 x.ep, .int .i64 x.v.a, .int .i64 x.v.b, .int .i64 x.v.c, .int .i64 x.v.d, .int .i64 x.sn, .bool x.lv] 46)) X pb rb) := HD.out _ (h4.out.1.below b4)
  have Z4 : Hid ((w4.alloc (.cells #[.string x.nm, .int .i64 x.ep, .int .i64 x.v.a, .int .i64 x.v.b, .int .i64 x.v.c, .int .i64 x.v.d, .int .i64 x.sn, .bool x.lv] 46)).heap[g3]? = some (.cells #[.string x.nm, .int .i64 x.ep, .int .i64 x.v.a, .int .i64 x.v.b, .int .i64 x.v.c, .int .i64 x.v.d, .int .i64 x.sn, .bool x.lv] 46 (0, 0))) := at_below b4 (Nat.le_refl _) (at_below h4.out.2 (Nat.le_refl _) Z3.out)
  have Z5 : Hid ((w4.alloc (.cells #[.string x.nm, .int .i64 x.ep, .int .i64 x.v.a, .int .i64 x.v.b, .int .i64 x.v.c, .int .i64 x.v.d, .int .i64 x.sn, .bool x.lv] 46)).heap[w4.heap.size]? = some (.cells #[.string x.nm, .int .i64 x.ep, .int .i64 x.v.a, .int .i64 x.v.b, .int .i64 x.v.c, .int .i64 x.v.d, .int .i64 x.sn, .bool x.lv] 46 (0, 0))) := new0
  clear d0 d1 H3 KR h4 b4 Z3 HD
  generalize (w4.alloc (.cells #[.string x.nm, .int .i64 x.ep, .int .i64 x.v.a, .int .i64 x.v.b, .int .i64 x.v.c, .int .i64 x.v.d, .int .i64 x.sn, .bool x.lv] 46)) = W5 at *
  generalize w4.heap.size = g5 at *
  obtain ⟨a0, a1, a2, a3, a4, a5, a6, a7⟩ := nB_cells Z4.out
  obtain ⟨c0, c1, c2, c3, c4, c5, c6, c7⟩ := nB_cells Z5.out
  go_wp2_with fail
  go_ret
  exact ⟨by simp, HF⟩
set_option maxHeartbeats 4000000 in
set_option maxRecDepth 100000 in
theorem step0 (h : L2 w0 w X pb rb D D) (k : Int) (h1 : k ≠ 1) (h2 : k ≠ 2) (h3 : k ≠ 3) (h4 : k ≠ 4) (s : ByteArray) (ep now : Int) (v : V) :
    Calls Try.prog 11 #[.pointer (some ⟨pb, 0, none⟩), .pointer (some ⟨rb, 0, none⟩), .agg #[.int .i64 k, .string s, .int .i64 ep, .int .i64 now, .int .i64 v.a, .int .i64 v.b, .int .i64 v.c, .int .i64 v.d]] w fun e w' => e = .returned (.bool true) ∧ Hid (P2 w0 w' X pb rb) := by
  have HF : Hid (P2 w0 (w.alloc (oB ⟨k, s, ep, now, v⟩)) X pb rb) := ⟨D, h.below ((Below.refl _ w).alloc (Nat.le_refl _) _)⟩
  have d0 : (w.alloc (oB ⟨k, s, ep, now, v⟩)).cell? ⟨w.heap.size, 0, none⟩ = some (.int .i64 k) := (oB_cells (o := ⟨k, s, ep, now, v⟩) new0).1
  have e1 : (k == 1) = false := by simpa using h1
  have e2 : (k == 2) = false := by simpa using h2
  have e3 : (k == 3) = false := by simpa using h3
  have e4 : (k == 4) = false := by simpa using h4
  clear h
  unfold oB at HF d0
  simp only at d0
  go_enter Try.func11, Try.ntmps11
  go_wp2_with fail
  go_ret
  exact ⟨rfl, HF⟩
theorem step_any (h : P2 w0 w X pb rb) (o : Opr) (hs : o.nm.size ≤ 281474976710656) :
    Calls Try.prog 11 #[.pointer (some ⟨pb, 0, none⟩), .pointer (some ⟨rb, 0, none⟩), .agg #[.int .i64 o.k, .string o.nm, .int .i64 o.ep, .int .i64 o.now, .int .i64 o.v.a, .int .i64 o.v.b, .int .i64 o.v.c, .int .i64 o.v.d]] w fun e w' => e = .returned (.bool true) ∧ Hid (P2 w0 w' X pb rb) := by
  obtain ⟨D, h⟩ := h
  by_cases h1 : o.k = 1
  · rw [h1]; exact step1 h _ _ _ _ hs
  by_cases h2 : o.k = 2
  · rw [h2]; exact step2 h _ _ _ _ hs
  by_cases h3 : o.k = 3
  · rw [h3]; exact step3 h _ _ _ _
  by_cases h4 : o.k = 4
  · rw [h4]; exact step4 h _ _ _ _ hs
  exact step0 h _ h1 h2 h3 h4 _ _ _ _
end
end Go.Proofs.Ytihjmigjphljnaa

namespace Go.Proofs.Ytihjmigjphljnaa
open Go.RowKit Go.Maps Go.WideMaps
open Tk

def vB (v : V) : Obj := .cells #[.int .i64 v.a, .int .i64 v.b, .int .i64 v.c, .int .i64 v.d] 32 (0, 0)
section
variable {w0 w : World} {X : Nat → Option Obj} {pb rb : Nat}
/-- All against the document's list -/
theorem p2_all (h : P2 w0 w X pb rb) : ∃ n q0 c0, w.cell? ⟨rb, 0, none⟩ = some (.slice q0 n c0) ∧ Hid (Calls Try.prog 13 #[.pointer (some ⟨pb, 0, none⟩)] w fun e w1 => ∃ p c1, e = .returned (.slice p n c1) ∧ Hid ((Below w.heap.size w w1 ∧ Below w0.heap.size w0 w1) ∧ ∀ W, Below w1.heap.size w1 W → Calls Try.prog 12 #[.slice p n c1, .slice q0 n c0] W fun e w2 => e = .returned (.bool true) ∧ Hid (P2 w0 w2 X pb rb))) := by
  obtain ⟨D, h⟩ := h
  obtain ⟨q0, c0, hc, hv⟩ := h.list
  have hl := h.tab.2.1
  refine ⟨D.length, q0, c0, hc, ?_⟩
  obtain ⟨S, T, h1, -⟩ := h.both
  refine (all_any h1).mono ?_
  rintro e w1 ⟨p, c1, he, hh⟩
  refine ⟨p, c1, he, ⟨hh.out.2.1, h.bel.trans (hh.out.2.1.mono h.bel.size)⟩, fun W b => ?_⟩
  refine (same_any W _ c1 c0 p q0 D (hh.out.1.vr.below b) ((hv.below hh.out.2.1).below b) rfl (by omega)).mono ?_
  rintro e w2 ⟨he2, k2⟩
  exact ⟨he2, D, ((h.below hh.out.2.1).below b).below k2.out⟩
theorem p2_live (h : P2 w0 w X pb rb) : Calls Try.prog 14 #[.pointer (some ⟨pb, 0, none⟩)] w fun e w1 => ∃ p m c1, e = .returned (.slice p m c1) ∧ Hid (Below w0.heap.size w0 w1 ∧ ∀ W, Below w1.heap.size w1 W → Calls Try.prog 15 #[.pointer (some ⟨rb, 0, none⟩)] W fun e w2 => ∃ p2 c2, e = .returned (.slice p2 m c2) ∧ Hid (Below w0.heap.size w0 w2 ∧ ∀ W2, Below w2.heap.size w2 W2 → Calls Try.prog 12 #[.slice p m c1, .slice p2 m c2] W2 fun e w3 => e = .returned (.bool true) ∧ Hid (P2 w0 w3 X pb rb))) := by
  obtain ⟨D, h⟩ := h
  obtain ⟨S, T, h1, h2, -⟩ := h.both
  have hl := h1.len
  refine (live_any h1).mono ?_
  rintro e w1 ⟨p, m, c1, he, hh⟩
  obtain ⟨rfl, t1, t2, t3⟩ := hh.out
  refine ⟨p, _, c1, he, (h.below t2).bel, fun W b => ?_⟩
  refine (rlive_any ((h2.keepB t2).keepB b)).mono ?_
  rintro e w2 ⟨p2, m2, c2, he2, hh2⟩
  obtain ⟨rfl, u1, u2, u3⟩ := hh2.out
  refine ⟨p2, c2, he2, (((h.below t2).below b).below u2).bel, fun W2 b2 => ?_⟩
  refine (same_any W2 _ c1 c2 p p2 (D.filter Nd.lv) (((t1.below b).below u2).below b2) (u1.below b2) rfl (by have := List.length_filter_le Nd.lv D; omega)).mono ?_
  rintro e w3 ⟨he3, k3⟩
  exact ⟨he3, D, ((((h.below t2).below b).below u2).below b2).below k3.out⟩
theorem p2_whole (h : P2 w0 w X pb rb) : ∃ a b c d : Int, Hid (Calls Try.prog 16 #[.pointer (some ⟨pb, 0, none⟩)] w fun e w1 => e = .returned (.agg #[.int .i64 a, .int .i64 b, .int .i64 c, .int .i64 d]) ∧ Hid (Below w0.heap.size w0 w1 ∧ ∀ W, Below w1.heap.size w1 W → Calls Try.prog 17 #[.pointer (some ⟨rb, 0, none⟩)] W fun e w2 => e = .returned (.agg #[.int .i64 a, .int .i64 b, .int .i64 c, .int .i64 d]) ∧ Hid (P2 w0 w2 X pb rb))) := by
  obtain ⟨D, h⟩ := h
  obtain ⟨v, h1, h2⟩ := l2_whole h
  refine ⟨v.a, v.b, v.c, v.d, h1.mono ?_⟩
  rintro e w1 ⟨he, hh⟩
  refine ⟨he, hh.out.bel, fun W b => (h2 W (hh.out.below b)).mono ?_⟩
  rintro e w2 ⟨he2, h3⟩
  exact ⟨he2, D, h3.out⟩
end
end Go.Proofs.Ytihjmigjphljnaa

namespace Go.Proofs.Ytihjmigjphljnaa
open Go.RowKit Go.Maps Go.WideMaps
open Tk

theorem conv1i (w : World) (x : Int) : (convert 50 9 (.slice (some ⟨w.heap.size, 0, none⟩) 1 1)).run Try.prog (w.alloc (.cells #[.int .u8 x] 5)) = .ok (.string (strOfNums [x])) (w.alloc (.cells #[.int .u8 x] 5)) := by
  refine run_convert_bytes_arg _ 50 5 Try.underlying50 Try.underlying5 w.heap.size 0 1 1 [x] rfl (fun i hi => ?_) 9 Try.underlying9
  rw [cell_of new0]
  match i, hi with
  | 0, _ => rfl
set_option maxHeartbeats 8000000 in
set_option maxRecDepth 100000 in
theorem full_law (y : Nat) (hy : y < 256) (v : V) (w : World) :
    Calls Try.prog 7 #[.int .u8 y, .agg #[.int .i64 v.a, .int .i64 v.b, .int .i64 v.c, .int .i64 v.d]] w fun e w' => e = .returned (.bool true) ∧ Below w.heap.size w w' := by
  have HA : Hid (∀ W, Calls Try.prog 9 #[] W fun e w' => e = .returned (.bool true) ∧ Hid (Below W.heap.size W w')) := awake_any
  have HV : Hid (Below w.heap.size w (w.alloc (vB v)) ∧ ∀ k o, XS NX w.heap.size (vB v) k = some o → (w.alloc (vB v)).heap[k]? = some o) := ⟨(Below.refl _ w).alloc (Nat.le_refl _) _, kept_add (kept_none w) ((Below.refl _ w).alloc (Nat.le_refl _) _) new0⟩
  have HC : Hid (∀ W : World, (∀ k o, XS NX w.heap.size (vB v) k = some o → W.heap[k]? = some o) → W.cell? ⟨w.heap.size, 0, none⟩ = some (.int .i64 v.a) ∧ W.cell? ⟨w.heap.size, 1, none⟩ = some (.int .i64 v.b) ∧ W.cell? ⟨w.heap.size, 2, none⟩ = some (.int .i64 v.c) ∧ W.cell? ⟨w.heap.size, 3, none⟩ = some (.int .i64 v.d)) := fun W h => by
    obtain ⟨d0, d1, d2, d3, -⟩ := cells4 (h w.heap.size (vB v) (if_pos rfl))
    exact ⟨d0, d1, d2, d3⟩
  have HS : Hid (∀ W pb rb (o : Opr), o.nm.size ≤ 281474976710656 → P2 w W (XS NX w.heap.size (vB v)) pb rb → Calls Try.prog 11 #[.pointer (some ⟨pb, 0, none⟩), .pointer (some ⟨rb, 0, none⟩), .agg #[.int .i64 o.k, .string o.nm, .int .i64 o.ep, .int .i64 o.now, .int .i64 o.v.a, .int .i64 o.v.b, .int .i64 o.v.c, .int .i64 o.v.d]] W fun e w' => e = .returned (.bool true) ∧ Hid (P2 w w' (XS NX w.heap.size (vB v)) pb rb)) := fun W pb rb o ho h => step_any h o ho
  obtain ⟨m, hm⟩ : ∃ m : Nat, m = y % 5 := ⟨_, rfl⟩
  have hm1 : (y : Int).tmod 5 = (m : Int) := by rw [Int.tmod_eq_emod_of_nonneg (by omega)]; omega
  have hm2 : (y : Int) % 5 = (m : Int) := by omega
  have hm3 : IntKind.i64.wrap (m : Int) = (m : Int) := by rw [IntKind.wrap_i64]; omega
  have hm4 : IntKind.i64.wrap (10 + (m : Int)) = 10 + (m : Int) := by rw [IntKind.wrap_i64]; omega
  have hm5 : m < 5 := by omega
  clear hm hy
  go_enter Try.func7, Try.ntmps7
  go_upto_region 1 with fail
  unfold vB at HV HC HS
  generalize w.alloc (.cells #[.int .i64 v.a, .int .i64 v.b, .int .i64 v.c, .int .i64 v.d] 32) = W0 at *
  go_upto_region 3 with (go_at_call 9; refine (HA.out _).mono ?_; rintro e w1 ⟨rfl, b1⟩)
  have V1 : Hid (Below w.heap.size w w1 ∧ ∀ k o, XS NX w.heap.size (.cells #[.int .i64 v.a, .int .i64 v.b, .int .i64 v.c, .int .i64 v.d] 32 (0, 0)) k = some o → w1.heap[k]? = some o) := ⟨below_from HV.out.1 b1.out HV.out.1.size, kept_below HV.out.2 b1.out⟩
  clear HA b1 HV
  go_upto_region 5 with (go_at_call 10; refine (new_any _).mono ?_; rintro e w2 ⟨rfl, rfl⟩)
  have L0 : Hid (P2 w ((w1.alloc (.cells #[.map none, .slice none 0 0, .map none] 63 (0, 0))).alloc (.cells #[.slice none 0 0] 29 (0, 0))) (XS NX w.heap.size (.cells #[.int .i64 v.a, .int .i64 v.b, .int .i64 v.c, .int .i64 v.d] 32 (0, 0))) w1.heap.size (w1.heap.size + 1)) := ⟨[], l2_new V1.out.1 V1.out.2⟩
  clear V1
  generalize (w1.alloc (.cells #[.map none, .slice none 0 0, .map none] 63)).alloc (.cells #[.slice none 0 0] 29) = W2 at *
  generalize w1.heap.size + 1 = rb at *
  generalize w1.heap.size = pb at *
  go_wp2_with fail
  go_loopw [7] (fun t wr => ∃ i : Nat, t = .int .i64 (i : Nat) ∧ Hid (i ≤ 10 + m ∧ P2 w wr (XS NX w.heap.size (.cells #[.int .i64 v.a, .int .i64 v.b, .int .i64 v.c, .int .i64 v.d] 32 (0, 0))) pb rb)) (fun t _ => 10 + m - (intOf t).toNat)
  case atStart => exact ⟨0, rfl, Nat.zero_le _, L0.out⟩
  case round =>
    obtain ⟨i, rfl, HI⟩ := hrel
    clear L0
    by_cases hlt : i < 10 + m
    · have hii : (i : Int) < 10 + (m : Int) := by omega
      obtain ⟨d0, d1, d2, d3⟩ := HC.out _ HI.out.2.kept
      have b1 : IntKind.i64.wrap (97 + (i : Int)) = 97 + (i : Int) := by rw [IntKind.wrap_i64]; omega
      have b2 : IntKind.u8.wrap (97 + (i : Int)) = 97 + (i : Int) := by rw [IntKind.wrap_u8]; omega
      have b3 : IntKind.i64.wrap ((i : Int) + 1) = (i : Int) + 1 := by rw [IntKind.wrap_i64]; omega
      have hcv := conv1i wr (97 + (i : Int))
      have HN : Hid ((strOfNums [97 + (i : Int)]).size ≤ 281474976710656) := by
        show (strOfNums _).size ≤ _
        rw [strOfNums_size]
        simp
      have HI1 : Hid (i + 1 ≤ 10 + m) := by show i + 1 ≤ 10 + m; omega
      generalize strOfNums [97 + (i : Int)] = nm at *
      have P1 : Hid (P2 w ((wr.alloc (.cells #[.int .u8 (97 + (i : Int))] 5)).alloc (.cells #[.int .i64 1, .string nm, .int .i64 ((i : Int) + 1), .int .i64 (i : Int), .int .i64 v.a, .int .i64 v.b, .int .i64 v.c, .int .i64 v.d] 34)) (XS NX w.heap.size (.cells #[.int .i64 v.a, .int .i64 v.b, .int .i64 v.c, .int .i64 v.d] 32 (0, 0))) pb rb) := HI.out.2.below (((Below.refl _ wr).alloc (Nat.le_refl _) _).alloc (by simp) _)
      have e1 : (wr.alloc (.cells #[.int .u8 (97 + (i : Int))] 5)).cell? ⟨w.heap.size, 0, none⟩ = some (.int .i64 v.a) := cell_below d0 ((Below.refl _ wr).alloc (Nat.le_refl _) _)
      have e2 : (wr.alloc (.cells #[.int .u8 (97 + (i : Int))] 5)).cell? ⟨w.heap.size, 1, none⟩ = some (.int .i64 v.b) := cell_below d1 ((Below.refl _ wr).alloc (Nat.le_refl _) _)
      have e3 : (wr.alloc (.cells #[.int .u8 (97 + (i : Int))] 5)).cell? ⟨w.heap.size, 2, none⟩ = some (.int .i64 v.c) := cell_below d2 ((Below.refl _ wr).alloc (Nat.le_refl _) _)
      have e4 : (wr.alloc (.cells #[.int .u8 (97 + (i : Int))] 5)).cell? ⟨w.heap.size, 3, none⟩ = some (.int .i64 v.d) := cell_below d3 ((Below.refl _ wr).alloc (Nat.le_refl _) _)
      have SS : Hid (∀ W, P2 w W (XS NX w.heap.size (.cells #[.int .i64 v.a, .int .i64 v.b, .int .i64 v.c, .int .i64 v.d] 32 (0, 0))) pb rb → Calls Try.prog 11 #[.pointer (some ⟨pb, 0, none⟩), .pointer (some ⟨rb, 0, none⟩), .agg #[.int .i64 1, .string nm, .int .i64 ((i : Int) + 1), .int .i64 (i : Int), .int .i64 v.a, .int .i64 v.b, .int .i64 v.c, .int .i64 v.d]] W fun e w' => e = .returned (.bool true) ∧ Hid (P2 w w' (XS NX w.heap.size (.cells #[.int .i64 v.a, .int .i64 v.b, .int .i64 v.c, .int .i64 v.d] 32 (0, 0))) pb rb)) := fun W h => HS.out W pb rb ⟨1, nm, (i : Int) + 1, i, v⟩ HN.out h
      clear HI HN
      go_upto_region 9 with fail
      clear d0 d1 d2 d3 e1 e2 e3 e4 hcv
      have z := new1 (w := wr) (A := .cells #[.int .u8 (97 + (i : Int))] 5) (B := .cells #[.int .i64 1, .string nm, .int .i64 ((i : Int) + 1), .int .i64 (i : Int), .int .i64 v.a, .int .i64 v.b, .int .i64 v.c, .int .i64 v.d] 34)
      generalize (wr.alloc (.cells #[.int .u8 (97 + (i : Int))] 5)).alloc (.cells #[.int .i64 1, .string nm, .int .i64 ((i : Int) + 1), .int .i64 (i : Int), .int .i64 v.a, .int .i64 v.b, .int .i64 v.c, .int .i64 v.d] 34) = W5 at *
      generalize wr.heap.size + 1 = g5 at *
      obtain ⟨d0, d1, d2, d3, d4, d5, d6, d7⟩ := oB_cells (o := ⟨1, nm, (i : Int) + 1, i, v⟩) z
      simp only at d0 d1 d2 d3 d4 d5 d6 d7
      clear z HC HS
      go_wp2_with (first
        | (go_at_call 11; refine (SS.out _ P1.out).mono ?_; rintro e wB ⟨rfl, hB⟩; obtain ⟨a1, a2, a3, a4, KW⟩ := p2_whole hB.out; have q1 : ∀ w, (Op.equalIn 10000 32 (.agg #[.int .i64 a1, .int .i64 a2, .int .i64 a3, .int .i64 a4]) (.agg #[.int .i64 a1, .int .i64 a2, .int .i64 a3, .int .i64 a4])).run Try.prog w = .ok true w := fun w => (eq4 a1 a2 a3 a4 a1 a2 a3 a4 w).trans (by simp))
        | (go_at_call 16; refine KW.out.mono ?_; rintro e wG ⟨rfl, hG⟩)
        | (go_at_call 17; refine (hG.out.2 _ (Below.refl _ _)).mono ?_; rintro e wH ⟨rfl, hH⟩))
      exact ⟨⟨i + 1, by simp, HI1.out, hH.out⟩, by simp [intOf]; omega⟩
    · have hii : ¬ (i : Int) < 10 + (m : Int) := by omega
      have S1 : Hid (Calls Try.prog 11 #[.pointer (some ⟨pb, 0, none⟩), .pointer (some ⟨rb, 0, none⟩), .agg #[.int .i64 1, .string ⟨#[97]⟩, .int .i64 99, .int .i64 20, .int .i64 1, .int .i64 0, .int .i64 0, .int .i64 0]] wr fun e w' => e = .returned (.bool true) ∧ Hid (P2 w w' (XS NX w.heap.size (.cells #[.int .i64 v.a, .int .i64 v.b, .int .i64 v.c, .int .i64 v.d] 32 (0, 0))) pb rb)) := HS.out wr pb rb ⟨1, nA, 99, 20, ⟨1, 0, 0, 0⟩⟩ (by decide) HI.out.2
      have S2 : Hid (∀ W, P2 w W (XS NX w.heap.size (.cells #[.int .i64 v.a, .int .i64 v.b, .int .i64 v.c, .int .i64 v.d] 32 (0, 0))) pb rb → Calls Try.prog 11 #[.pointer (some ⟨pb, 0, none⟩), .pointer (some ⟨rb, 0, none⟩), .agg #[.int .i64 3, .string ⟨#[]⟩, .int .i64 0, .int .i64 15, .int .i64 0, .int .i64 0, .int .i64 0, .int .i64 0]] W fun e w' => e = .returned (.bool true) ∧ Hid (P2 w w' (XS NX w.heap.size (.cells #[.int .i64 v.a, .int .i64 v.b, .int .i64 v.c, .int .i64 v.d] 32 (0, 0))) pb rb)) := fun W h => HS.out W pb rb ⟨3, ⟨#[]⟩, 0, 15, ⟨0, 0, 0, 0⟩⟩ (by decide) h
      clear HI HC HS
      go_wp2_with (first
        | (go_at_call 11; refine S1.out.mono ?_; rintro e wA ⟨rfl, hA⟩; clear S1)
        | (go_at_call 11; refine (S2.out _ hA.out).mono ?_; rintro e wB ⟨rfl, hB⟩; obtain ⟨a1, a2, a3, a4, KW⟩ := p2_whole hB.out; have q1 : ∀ w, (Op.equalIn 10000 32 (.agg #[.int .i64 a1, .int .i64 a2, .int .i64 a3, .int .i64 a4]) (.agg #[.int .i64 a1, .int .i64 a2, .int .i64 a3, .int .i64 a4])).run Try.prog w = .ok true w := fun w => (eq4 a1 a2 a3 a4 a1 a2 a3 a4 w).trans (by simp))
        | (go_at_call 16; refine KW.out.mono ?_; rintro e wG ⟨rfl, hG⟩)
        | (go_at_call 17; refine (hG.out.2 _ (Below.refl _ _)).mono ?_; rintro e wH ⟨rfl, hH⟩)
        | (go_at_call 14; refine (p2_live hH.out).mono ?_; rintro e wD ⟨pD, mD, cD, rfl, hD⟩)
        | (go_at_call 15; refine (hD.out.2 _ (Below.refl _ _)).mono ?_; rintro e wE ⟨pE, cE, rfl, hE⟩)
        | (go_at_call 12; refine (hE.out.2 _ (Below.refl _ _)).mono ?_; rintro e wF ⟨rfl, hF⟩))
      go_ret
      exact ⟨rfl, hF.out.bel⟩
end Go.Proofs.Ytihjmigjphljnaa
