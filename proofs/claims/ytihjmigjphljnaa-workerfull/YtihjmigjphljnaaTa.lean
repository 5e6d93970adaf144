/-
  Both tables in a law, apart.
-/
import Derived.Test.YtihjmigjphljnaaLa
import Derived.Test.YtihjmigjphljnaaBg
namespace Go.Proofs.Ytihjmigjphljnaa
open Go.RowKit Go.Maps Go.WideMaps
open Tk

/-- the program's table and the document's, apart; X: blocks that are kept -/
structure L2 (w0 w : World) (X : Nat → Option Obj) (pb rb : Nat) (D D' : List Nd) : Prop where
  bel : Below w0.heap.size w0 w
  both : ∃ S T, Tab w S pb D ∧ Ref w T rb D' ∧ (∀ k, S k → w0.heap.size ≤ k ∧ X k = none ∧ ¬ T k) ∧ ∀ k, T k → w0.heap.size ≤ k ∧ X k = none
  kept : ∀ k o, X k = some o → w.heap[k]? = some o
section
variable {w0 w w' : World} {X : Nat → Option Obj} {pb rb : Nat} {D D' D1 : List Nd} {S T S' T' : Nat → Prop}
theorem L2.stepP (b : Below w0.heap.size w0 w) (hk : ∀ k o, X k = some o → w.heap[k]? = some o) (hR : Ref w T rb D') (hS : ∀ k, S k → w0.heap.size ≤ k ∧ X k = none ∧ ¬ T k) (hT : ∀ k, T k → w0.heap.size ≤ k ∧ X k = none) (hl : Tab w' S' pb D1) (hst : Step S S' w w') : L2 w0 w' X pb rb D1 D' := by
  refine ⟨b.trans (hst.1.below b.size fun k h1 q => by have := (hS k q).1; omega), ⟨S', T, hl, hR.keep (fun k h1 => hst.1.block k (hR.2 k h1) fun q => (hS k q).2.2 h1) hst.1.size, fun k h1 => ?_, hT⟩, fun k o hx => ?_⟩
  · rcases hst.2 k h1 with h2 | h2
    · exact hS k h2
    · refine ⟨Nat.le_trans b.size h2, kept_lt hk h2, fun q => ?_⟩
      have := hR.2 k q
      omega
  · have h1 := hk k o hx
    refine (hst.1.block k (Array.getElem?_eq_some_iff.1 h1).1 fun q => ?_).trans h1
    rw [(hS k q).2.1] at hx
    cases hx
theorem L2.stepR (b : Below w0.heap.size w0 w) (hk : ∀ k o, X k = some o → w.heap[k]? = some o) (hL : Tab w S pb D) (hS : ∀ k, S k → w0.heap.size ≤ k ∧ X k = none ∧ ¬ T k) (hT : ∀ k, T k → w0.heap.size ≤ k ∧ X k = none) (hl : Ref w' T' rb D1) (hst : Step T T' w w') : L2 w0 w' X pb rb D D1 := by
  refine ⟨b.trans (hst.1.below b.size fun k h1 q => by have := (hT k q).1; omega), ⟨S, T', hL.keepK hst.1 fun k h1 => (hS k h1).2.2, hl, fun k h1 => ⟨(hS k h1).1, (hS k h1).2.1, fun q => ?_⟩, fun k h1 => ?_⟩, fun k o hx => ?_⟩
  · rcases hst.2 k q with h2 | h2
    · exact (hS k h1).2.2 h2
    · have := hL.2 k h1
      omega
  · rcases hst.2 k h1 with h2 | h2
    · exact hT k h2
    · exact ⟨Nat.le_trans b.size h2, kept_lt hk h2⟩
  · have h1 := hk k o hx
    refine (hst.1.block k (Array.getElem?_eq_some_iff.1 h1).1 fun q => ?_).trans h1
    rw [(hT k q).2] at hx
    cases hx
theorem L2.below (h : L2 w0 w X pb rb D D') (b : Below w.heap.size w w') : L2 w0 w' X pb rb D D' := by
  obtain ⟨S, T, h1, h2, h3, h4⟩ := h.both
  exact L2.stepP h.bel h.kept h2 h3 h4 (h1.keepB b) (Step.of_below S b)
/-- one more block that is kept -/
theorem L2.add {g : Nat} {o : Obj} (h : L2 w0 w X pb rb D D') (b : Below w.heap.size w w') (hg : w'.heap[g]? = some o) (hge : w.heap.size ≤ g) : L2 w0 w' (XS X g o) pb rb D D' := by
  obtain ⟨S, T, h1, h2, h3, h4⟩ := h.both
  have h' := h.below b
  refine ⟨h'.bel, ⟨S, T, h1.keepB b, h2.keepB b, fun k hk => ⟨(h3 k hk).1, ?_, (h3 k hk).2.2⟩, fun k hk => ⟨(h4 k hk).1, ?_⟩⟩, kept_add h.kept b hg⟩
  · unfold XS
    rw [if_neg]
    · exact (h3 k hk).2.1
    · have := h1.2 k hk
      omega
  · unfold XS
    rw [if_neg]
    · exact (h4 k hk).2
    · have := h2.2 k hk
      omega
/-- kept blocks may be forgotten -/
theorem L2.weak {Y : Nat → Option Obj} (h : L2 w0 w X pb rb D D') (hy : ∀ k o, Y k = some o → X k = some o) : L2 w0 w Y pb rb D D' := by
  obtain ⟨S, T, h1, h2, h3, h4⟩ := h.both
  have e : ∀ k, X k = none → Y k = none := fun k q => by
    cases hk : Y k with
    | none => rfl
    | some o => rw [hy k o hk] at q; cases q
  exact ⟨h.bel, ⟨S, T, h1, h2, fun k hk => ⟨(h3 k hk).1, e k (h3 k hk).2.1, (h3 k hk).2.2⟩, fun k hk => ⟨(h4 k hk).1, e k (h4 k hk).2⟩⟩, fun k o hk => h.kept k o (hy k o hk)⟩
theorem l2_reg (h : L2 w0 w X pb rb D D') (s : ByteArray) (hs : s.size ≤ 281474976710656) (ep now : Int) (v : V) :
    Calls Try.prog 18 #[.pointer (some ⟨pb, 0, none⟩), .string s, .int .i64 ep, .agg #[.int .i64 v.a, .int .i64 v.b, .int .i64 v.c, .int .i64 v.d], .int .i64 now] w fun e w' => e = ansR (regR D s ep v now).1 ∧ Hid (L2 w0 w' X pb rb (regR D s ep v now).2 D') := by
  obtain ⟨S, T, h1, h2, h3, h4⟩ := h.both
  exact (reg_any h1 s hs ep now v).mono fun e w' ⟨he, hh⟩ => ⟨he, by obtain ⟨S', hl, hst⟩ := hh.out; exact L2.stepP h.bel h.kept h2 h3 h4 hl hst⟩
theorem l2_rreg (h : L2 w0 w X pb rb D D') (s : ByteArray) (hs : s.size ≤ 281474976710656) (ep now : Int) (v : V) :
    Calls Try.prog 22 #[.pointer (some ⟨rb, 0, none⟩), .string s, .int .i64 ep, .agg #[.int .i64 v.a, .int .i64 v.b, .int .i64 v.c, .int .i64 v.d], .int .i64 now] w fun e w' => e = ansR (regR D' s ep v now).1 ∧ Hid (L2 w0 w' X pb rb D (regR D' s ep v now).2) := by
  obtain ⟨S, T, h1, h2, h3, h4⟩ := h.both
  exact (rreg_any h2 s hs ep now v).mono fun e w' ⟨he, hh⟩ => ⟨he, by obtain ⟨T', hl, hst⟩ := hh.out; exact L2.stepR h.bel h.kept h1 h3 h4 hl hst⟩
theorem l2_beat (h : L2 w0 w X pb rb D D') (s : ByteArray) (hs : s.size ≤ 281474976710656) (ep now : Int) :
    Calls Try.prog 19 #[.pointer (some ⟨pb, 0, none⟩), .string s, .int .i64 ep, .int .i64 now] w fun e w' => e = .returned (.int .i64 (beatR D s.data.toList ep now).1) ∧ Hid (L2 w0 w' X pb rb (beatR D s.data.toList ep now).2 D') := by
  obtain ⟨S, T, h1, h2, h3, h4⟩ := h.both
  exact (beat_any h1 s hs ep now).mono fun e w' ⟨he, hh⟩ => ⟨he, by obtain ⟨S', hl, hst⟩ := hh.out; exact L2.stepP h.bel h.kept h2 h3 h4 hl hst⟩
theorem l2_rbeat (h : L2 w0 w X pb rb D D') (s : ByteArray) (ep now : Int) :
    Calls Try.prog 23 #[.pointer (some ⟨rb, 0, none⟩), .string s, .int .i64 ep, .int .i64 now] w fun e w' => e = .returned (.int .i64 (beatR D' s.data.toList ep now).1) ∧ Hid (L2 w0 w' X pb rb D (beatR D' s.data.toList ep now).2) := by
  obtain ⟨S, T, h1, h2, h3, h4⟩ := h.both
  exact (rbeat_any h2 s ep now).mono fun e w' ⟨he, hh⟩ => ⟨he, by obtain ⟨T', hl, hst⟩ := hh.out; exact L2.stepR h.bel h.kept h1 h3 h4 hl hst⟩
theorem l2_get (h : L2 w0 w X pb rb D D') (s : ByteArray) (hs : s.size ≤ 281474976710656) :
    Calls Try.prog 21 #[.pointer (some ⟨pb, 0, none⟩), .string s] w fun e w' => e = ansN (getR D s.data.toList) ∧ Hid (L2 w0 w' X pb rb D D') := by
  obtain ⟨S, T, h1, h2, h3, h4⟩ := h.both
  exact (get_any h1 s hs).mono fun e w' ⟨he, hb⟩ => ⟨he, h.below hb⟩
theorem l2_rget (h : L2 w0 w X pb rb D D') (s : ByteArray) :
    Calls Try.prog 26 #[.pointer (some ⟨rb, 0, none⟩), .string s] w fun e w' => e = ansN (getR D' s.data.toList) ∧ Hid (L2 w0 w' X pb rb D D') := by
  obtain ⟨S, T, h1, h2, h3, h4⟩ := h.both
  exact (rget_any h2 s).mono fun e w' ⟨he, hb⟩ => ⟨he, h.below hb⟩
/-- Expire of both, one behind the other -/
theorem l2_exp (h : L2 w0 w X pb rb D D) (now : Int) :
    Calls Try.prog 20 #[.pointer (some ⟨pb, 0, none⟩), .int .i64 now] w fun e w1 => ∃ p m c1, e = .returned (.slice p m c1) ∧ Hid ((∀ k o, X k = some o → w1.heap[k]? = some o) ∧ ∀ W, Below w1.heap.size w1 W → Calls Try.prog 25 #[.pointer (some ⟨rb, 0, none⟩), .int .i64 now] W fun e w2 => ∃ p2 c2, e = .returned (.slice p2 m c2) ∧ Hid ((∀ k o, X k = some o → w2.heap[k]? = some o) ∧ ∀ W2, Below w2.heap.size w2 W2 → Calls Try.prog 24 #[.slice p m c1, .slice p2 m c2] W2 fun e w3 => e = .returned (.bool true) ∧ Hid (L2 w0 w3 X pb rb (expR D now) (expR D now)))) := by
  obtain ⟨S, T, h1, h2, h3, h4⟩ := h.both
  have hl := h1.len
  refine (exp_any h1 now).mono ?_
  rintro e w1 ⟨p, c1, he, hh⟩
  obtain ⟨S', t1, t2, t3, t4⟩ := hh.out
  have hA := L2.stepP h.bel h.kept h2 h3 h4 t1 t2
  refine ⟨p, _, c1, he, hA.kept, fun W b => ?_⟩
  have r2 : Ref w1 T rb D := h2.keep (fun k q => t2.1.block k (h2.2 k q) fun q2 => (h3 k q2).2.2 q) t2.1.size
  refine (rexp_any (r2.keepB b) now).mono ?_
  rintro e w2 ⟨p2, m2, c2, he2, hh2⟩
  obtain ⟨rfl, u1, u2, u3, u4⟩ := hh2.out
  have hSR1 : SR w2 (.slice p (expN D now).length c1) ((expN D now).map Nd.k) := (t3.below b).keep fun j q => u3.1.block j (Nat.lt_of_lt_of_le (t3.lt q) b.size) fun q2 => by
    have := (t4 j q).1
    have := h2.2 j q2
    omega
  have hB : L2 w0 w2 X pb rb (expR D now) (expR D now) := by
    have hW := hA.below b
    have sS : ∀ k, S' k → w0.heap.size ≤ k ∧ X k = none ∧ ¬ T k := fun k q => by
      rcases t2.2 k q with q2 | q2
      · exact h3 k q2
      · exact ⟨Nat.le_trans h.bel.size q2, kept_lt h.kept q2, fun q3 => by have := h2.2 k q3; omega⟩
    exact L2.stepR hW.bel hW.kept (t1.keepB b) sS h4 u2 u3
  refine ⟨p2, c2, he2, hB.kept, fun W2 b2 => ?_⟩
  refine (sames_any W2 (expN D now).length c1 c2 p p2 _ (hSR1.below b2) (u1.below b2) (by have := List.length_filter_le (Nd.lost now) D; unfold expN; omega)).mono ?_
  rintro e w3 ⟨he3, k3⟩
  exact ⟨he3, (hB.below b2).below k3.out⟩
/-- the document's list as it lies -/
theorem L2.list (h : L2 w0 w X pb rb D D') : ∃ q c, w.cell? ⟨rb, 0, none⟩ = some (.slice q D'.length c) ∧ VR w q D' := by
  obtain ⟨S, T, -, ⟨⟨q, n, c, h1, -⟩, -⟩, -⟩ := h.both
  have := h1.n
  subst this
  exact ⟨q, c, c1 h1.cell, h1.row.vr⟩
theorem L2.tab (h : L2 w0 w X pb rb D D') : Srt Nd.k D ∧ D.length ≤ 12 ∧ ∀ n ∈ D, n.ok := by
  obtain ⟨S, T, h1, -⟩ := h.both
  exact ⟨h1.srt, h1.len, h1.ok⟩
theorem l2_all (h : L2 w0 w X pb rb D D') :
    Calls Try.prog 13 #[.pointer (some ⟨pb, 0, none⟩)] w fun e w' => ∃ q c', e = .returned (.slice q D.length c') ∧ Hid (L2 w0 w' X pb rb D D' ∧ VR w' q D) := by
  obtain ⟨S, T, h1, -⟩ := h.both
  exact (all_any h1).mono fun e w' ⟨q, c', he, hh⟩ => ⟨q, c', he, h.below hh.out.2.1, hh.out.1.vr⟩
/-- Live of both, and Same of them -/
theorem l2_live (h : L2 w0 w X pb rb D D) :
    Calls Try.prog 14 #[.pointer (some ⟨pb, 0, none⟩)] w fun e w1 => ∃ p m c1, e = .returned (.slice p m c1) ∧ Hid (∀ W, Below w1.heap.size w1 W → Calls Try.prog 15 #[.pointer (some ⟨rb, 0, none⟩)] W fun e w2 => ∃ p2 c2, e = .returned (.slice p2 m c2) ∧ Hid (∀ W2, Below w2.heap.size w2 W2 → Calls Try.prog 12 #[.slice p m c1, .slice p2 m c2] W2 fun e w3 => e = .returned (.bool true) ∧ Hid (L2 w0 w3 X pb rb D D))) := by
  obtain ⟨S, T, h1, h2, -⟩ := h.both
  have hl := h1.len
  refine (live_any h1).mono ?_
  rintro e w1 ⟨p, m, c1, he, hh⟩
  obtain ⟨rfl, t1, t2, t3⟩ := hh.out
  refine ⟨p, _, c1, he, fun W b => ?_⟩
  refine (rlive_any ((h2.keepB t2).keepB b)).mono ?_
  rintro e w2 ⟨p2, m2, c2, he2, hh2⟩
  obtain ⟨rfl, u1, u2, u3⟩ := hh2.out
  refine ⟨p2, c2, he2, fun W2 b2 => ?_⟩
  refine (same_any W2 _ c1 c2 p p2 (D.filter Nd.lv) (((t1.below b).below u2).below b2) (u1.below b2) rfl (by have := List.length_filter_le Nd.lv D; omega)).mono ?_
  rintro e w3 ⟨he3, k3⟩
  exact ⟨he3, ((((h.below t2).below b).below u2).below b2).below k3.out⟩
theorem l2_whole (h : L2 w0 w X pb rb D D) : ∃ v : V, (Calls Try.prog 16 #[.pointer (some ⟨pb, 0, none⟩)] w fun e w' => e = .returned (.agg #[.int .i64 v.a, .int .i64 v.b, .int .i64 v.c, .int .i64 v.d]) ∧ Hid (L2 w0 w' X pb rb D D)) ∧ ∀ W, L2 w0 W X pb rb D D → Calls Try.prog 17 #[.pointer (some ⟨rb, 0, none⟩)] W fun e w' => e = .returned (.agg #[.int .i64 v.a, .int .i64 v.b, .int .i64 v.c, .int .i64 v.d]) ∧ Hid (L2 w0 w' X pb rb D D) := by
  refine ⟨whl (D.filter Nd.lv), ?_, fun W hW => ?_⟩
  · obtain ⟨S, T, h1, -⟩ := h.both
    exact (whole_any h1).mono fun e w' ⟨he, hb⟩ => ⟨he, h.below hb⟩
  · obtain ⟨S, T, -, h2, -⟩ := hW.both
    exact (rwhole_any h2).mono fun e w' ⟨he, hb⟩ => ⟨he, hW.below hb⟩
/-- the document's new table -/
theorem ref_new (w : World) : Ref (w.alloc (.cells #[.slice none 0 0] 29 (0, 0))) (· = w.heap.size) w.heap.size [] :=
  ⟨⟨none, 0, 0, ⟨new0, GRow.nil _ _ _ _ _, List.Pairwise.nil, Nat.zero_le _, fun _ h => nomatch h⟩, fun k hk => by
    rcases hk with h | h
    · exact h
    · cases h⟩, fun k hk => by rw [show k = w.heap.size from hk, World.size_alloc]; omega⟩
theorem l2_new (b : Below w0.heap.size w0 w) (hX : ∀ k o, X k = some o → w.heap[k]? = some o) : L2 w0 ((w.alloc (.cells #[.map none, .slice none 0 0, .map none] 63 (0, 0))).alloc (.cells #[.slice none 0 0] 29 (0, 0))) X w.heap.size (w.heap.size + 1) [] [] := by
  have h1 := tab_new w
  have h2 := ref_new (w.alloc (.cells #[.map none, .slice none 0 0, .map none] 63 (0, 0)))
  rw [World.size_alloc] at h2
  have b1 : Below w.heap.size w (w.alloc (.cells #[.map none, .slice none 0 0, .map none] 63 (0, 0))) := (Below.refl _ _).alloc (Nat.le_refl _) _
  have b2 : Below (w.alloc (.cells #[.map none, .slice none 0 0, .map none] 63 (0, 0))).heap.size (w.alloc (.cells #[.map none, .slice none 0 0, .map none] 63 (0, 0))) ((w.alloc (.cells #[.map none, .slice none 0 0, .map none] 63 (0, 0))).alloc (.cells #[.slice none 0 0] 29 (0, 0))) := (Below.refl _ _).alloc (Nat.le_refl _) _
  have hb := b.size
  refine ⟨(b.alloc b.size _).alloc (by rw [World.size_alloc]; omega) _, ⟨_, _, h1.keepB b2, h2, fun k hk => ?_, fun k hk => ?_⟩, fun k o hk => at_alloc (at_alloc (hX k o hk))⟩
  · have hk' : k = w.heap.size := hk
    exact ⟨by omega, kept_lt hX (by omega), fun q => by have q' : k = w.heap.size + 1 := q; omega⟩
  · have hk' : k = w.heap.size + 1 := hk
    exact ⟨by omega, kept_lt hX (by omega)⟩
end
end Go.Proofs.Ytihjmigjphljnaa
