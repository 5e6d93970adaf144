/-
  Both ledgers in a law, apart.
-/
import Derived.Test.YtehgcaaeifnjeaaRl
import Derived.Test.YtehgcaaeifnjeaaRb
namespace Go.Proofs.Ytehgcaaeifnjeaa
open Go.RowKit Go.Maps Go.WideMaps

/-- the program's ledger and the document's, apart; X: blocks that are kept -/
structure L2 (w0 w : World) (X : Nat → Option Obj) (pb rb : Nat) (D D' : List A) : Prop where
  bel : Below w0.heap.size w0 w
  both : ∃ S T, Led w S pb D ∧ Ref w T rb D' ∧ (∀ k, S k → w0.heap.size ≤ k ∧ X k = none ∧ ¬ T k) ∧ ∀ k, T k → w0.heap.size ≤ k ∧ X k = none
  kept : ∀ k o, X k = some o → w.heap[k]? = some o
theorem kept_lt {w : World} {X : Nat → Option Obj} (h : ∀ k o, X k = some o → w.heap[k]? = some o) {k : Nat} (hk : w.heap.size ≤ k) : X k = none := by
  cases hx : X k with
  | none => rfl
  | some o =>
    have := (Array.getElem?_eq_some_iff.1 (h k o hx)).1
    omega
section
variable {w0 w w' : World} {X : Nat → Option Obj} {pb rb : Nat} {D D' D1 : List A} {S T S' T' : Nat → Prop}
theorem L2.stepP (b : Below w0.heap.size w0 w) (hk : ∀ k o, X k = some o → w.heap[k]? = some o) (hR : Ref w T rb D') (hS : ∀ k, S k → w0.heap.size ≤ k ∧ X k = none ∧ ¬ T k) (hT : ∀ k, T k → w0.heap.size ≤ k ∧ X k = none) (hl : Led w' S' pb D1) (hst : Step S S' w w') : L2 w0 w' X pb rb D1 D' := by
  refine ⟨b.trans (hst.1.below b.size fun k h1 q => by have := (hS k q).1; omega), ⟨S', T, hl, hR.keep (fun k h1 => hst.1.block k (hR.2 k h1) fun q => (hS k q).2.2 h1) hst.1.size, fun k h1 => ?_, hT⟩, fun k o hx => ?_⟩
  · rcases hst.2 k h1 with h2 | h2
    · exact hS k h2
    · refine ⟨Nat.le_trans b.size h2, kept_lt hk h2, fun q => ?_⟩
      have := hR.2 k q
      omega
  · have h1 := hk k o hx
    refine (hst.1.block k (Array.getElem?_eq_some_iff.1 h1).1 fun q => ?_).trans h1
    rw [(hS k q).2.1] at hx
    cases hx
theorem L2.stepR (b : Below w0.heap.size w0 w) (hk : ∀ k o, X k = some o → w.heap[k]? = some o) (hL : Led w S pb D) (hS : ∀ k, S k → w0.heap.size ≤ k ∧ X k = none ∧ ¬ T k) (hT : ∀ k, T k → w0.heap.size ≤ k ∧ X k = none) (hl : Ref w' T' rb D1) (hst : Step T T' w w') : L2 w0 w' X pb rb D D1 := by
  refine ⟨b.trans (hst.1.below b.size fun k h1 q => by have := (hT k q).1; omega), ⟨S, T', hL.keepK hst.1 fun k h1 => (hS k h1).2.2, hl, fun k h1 => ⟨(hS k h1).1, (hS k h1).2.1, fun q => ?_⟩, fun k h1 => ?_⟩, fun k o hx => ?_⟩
  · rcases hst.2 k q with h2 | h2
    · exact (hS k h1).2.2 h2
    · have := hL.2 k h1
      omega
  · rcases hst.2 k h1 with h2 | h2
    · exact hT k h2
    · exact ⟨Nat.le_trans b.size h2, kept_lt hk h2⟩
  · have h1 := hk k o hx
    refine (hst.1.block k (Array.getElem?_eq_some_iff.1 h1).1 fun q => ?_).trans h1
    rw [(hT k q).2] at hx
    cases hx
theorem L2.below (h : L2 w0 w X pb rb D D') (b : Below w.heap.size w w') : L2 w0 w' X pb rb D D' := by
  obtain ⟨S, T, h1, h2, h3, h4⟩ := h.both
  exact L2.stepP h.bel h.kept h2 h3 h4 (h1.keepB b) (Step.of_below S b)
/-- one more block that is kept -/
theorem L2.add {g : Nat} {o : Obj} (h : L2 w0 w X pb rb D D') (b : Below w.heap.size w w') (hg : w'.heap[g]? = some o) (hge : w.heap.size ≤ g) : L2 w0 w' (XS X g o) pb rb D D' := by
  obtain ⟨S, T, h1, h2, h3, h4⟩ := h.both
  have h' := h.below b
  refine ⟨h'.bel, ⟨S, T, h1.keepB b, h2.keepB b, fun k hk => ⟨(h3 k hk).1, ?_, (h3 k hk).2.2⟩, fun k hk => ⟨(h4 k hk).1, ?_⟩⟩, fun k q hk => ?_⟩
  · unfold XS
    rw [if_neg]
    · exact (h3 k hk).2.1
    · have := h1.2 k hk
      omega
  · unfold XS
    rw [if_neg]
    · exact (h4 k hk).2
    · have := h2.2 k hk
      omega
  · unfold XS at hk
    split at hk
    · rename_i e
      rw [e, ← Option.some.inj hk]
      exact hg
    · exact h'.kept k q hk
theorem l2_open (h : L2 w0 w X pb rb D D') (s : ByteArray) (hs : s.size ≤ 281474976710656) (v : V) :
    Calls Try.prog 18 #[.pointer (some ⟨pb, 0, none⟩), .string s, vec v] w fun e w' => e = .returned (.int .i64 (openD D s.data.toList v).1) ∧ Hid (L2 w0 w' X pb rb (openD D s.data.toList v).2 D') := by
  obtain ⟨S, T, h1, h2, h3, h4⟩ := h.both
  exact (open_any h1 s hs v).mono fun e w' ⟨he, S', hl, hst⟩ => ⟨he, L2.stepP h.bel h.kept h2 h3 h4 hl hst⟩
theorem l2_close (h : L2 w0 w X pb rb D D') (s : ByteArray) (hs : s.size ≤ 281474976710656) :
    Calls Try.prog 25 #[.pointer (some ⟨pb, 0, none⟩), .string s] w fun e w' => e = .returned (.int .i64 (closeD D s.data.toList).1) ∧ Hid (L2 w0 w' X pb rb (closeD D s.data.toList).2 D') := by
  obtain ⟨S, T, h1, h2, h3, h4⟩ := h.both
  exact (close_any h1 s hs).mono fun e w' ⟨he, S', hl, hst⟩ => ⟨he, L2.stepP h.bel h.kept h2 h3 h4 hl hst⟩
theorem l2_left (h : L2 w0 w X pb rb D D') (s : ByteArray) (hs : s.size ≤ 281474976710656) :
    Calls Try.prog 27 #[.pointer (some ⟨pb, 0, none⟩), .string s] w fun e w' => e = ansV (leftD D s.data.toList) ∧ Hid (L2 w0 w' X pb rb D D') := by
  obtain ⟨S, T, h1, h2, h3, h4⟩ := h.both
  exact (left_any h1 s hs).mono fun e w' ⟨he, hb⟩ => ⟨he, h.below hb⟩
theorem l2_used (h : L2 w0 w X pb rb D D') (s : ByteArray) (hs : s.size ≤ 281474976710656) :
    Calls Try.prog 14 #[.pointer (some ⟨pb, 0, none⟩), .string s] w fun e w' => e = ansV (usedD D s.data.toList) ∧ Hid (L2 w0 w' X pb rb D D') := by
  obtain ⟨S, T, h1, h2, h3, h4⟩ := h.both
  exact (used_any h1 s hs).mono fun e w' ⟨he, hb⟩ => ⟨he, h.below hb⟩
theorem l2_take (h : L2 w0 w X pb rb D D') (s : Option Addr) (es : List E) (c : Nat) (hn : es.length < 1152921504606846976) (hr : ERow w s es) (hz : ∀ e ∈ es, e.nm.size ≤ 281474976710656) :
    Calls Try.prog 19 #[.pointer (some ⟨pb, 0, none⟩), .slice s es.length c] w fun e w' => e = .returned (.int .i64 (takeD D es).1) ∧ Hid (L2 w0 w' X pb rb (takeD D es).2 D') := by
  obtain ⟨S, T, h1, h2, h3, h4⟩ := h.both
  exact (take_any h1 s es c hn hr hz).mono fun e w' ⟨he, S', hl, hst⟩ => ⟨he, L2.stepP h.bel h.kept h2 h3 h4 hl hst⟩
theorem l2_give (h : L2 w0 w X pb rb D D') (s : Option Addr) (es : List E) (c : Nat) (hn : es.length < 1152921504606846976) (hr : ERow w s es) (hz : ∀ e ∈ es, e.nm.size ≤ 281474976710656) :
    Calls Try.prog 20 #[.pointer (some ⟨pb, 0, none⟩), .slice s es.length c] w fun e w' => e = .returned (.int .i64 (giveD D es).1) ∧ Hid (L2 w0 w' X pb rb (giveD D es).2 D') := by
  obtain ⟨S, T, h1, h2, h3, h4⟩ := h.both
  exact (give_any h1 s es c hn hr hz).mono fun e w' ⟨he, S', hl, hst⟩ => ⟨he, L2.stepP h.bel h.kept h2 h3 h4 hl hst⟩
theorem l2_ropen (h : L2 w0 w X pb rb D D') (s : List UInt8) (v : V) :
    Calls Try.prog 23 #[.pointer (some ⟨rb, 0, none⟩), .string ⟨⟨s⟩⟩, vec v] w fun e w' => e = .returned (.int .i64 (openD D' s v).1) ∧ Hid (L2 w0 w' X pb rb D (openD D' s v).2) := by
  obtain ⟨S, T, h1, h2, h3, h4⟩ := h.both
  exact (ropen_any h2 s v).mono fun e w' ⟨he, hh⟩ => ⟨he, by obtain ⟨T', hl, hst⟩ := hh.out; exact L2.stepR h.bel h.kept h1 h3 h4 hl hst⟩
theorem l2_rclose (h : L2 w0 w X pb rb D D') (s : List UInt8) :
    Calls Try.prog 26 #[.pointer (some ⟨rb, 0, none⟩), .string ⟨⟨s⟩⟩] w fun e w' => e = .returned (.int .i64 (closeD D' s).1) ∧ Hid (L2 w0 w' X pb rb D (closeD D' s).2) := by
  obtain ⟨S, T, h1, h2, h3, h4⟩ := h.both
  exact (rclose_any h2 s).mono fun e w' ⟨he, hh⟩ => ⟨he, by obtain ⟨T', hl, hst⟩ := hh.out; exact L2.stepR h.bel h.kept h1 h3 h4 hl hst⟩
theorem l2_rleft (h : L2 w0 w X pb rb D D') (s : List UInt8) :
    Calls Try.prog 28 #[.pointer (some ⟨rb, 0, none⟩), .string ⟨⟨s⟩⟩] w fun e w' => e = ansV (leftD D' s) ∧ Hid (L2 w0 w' X pb rb D D') := by
  obtain ⟨S, T, h1, h2, h3, h4⟩ := h.both
  exact (rleft_any h2 s).mono fun e w' ⟨he, hb⟩ => ⟨he, h.below hb⟩
theorem l2_rused (h : L2 w0 w X pb rb D D') (s : List UInt8) :
    Calls Try.prog 15 #[.pointer (some ⟨rb, 0, none⟩), .string ⟨⟨s⟩⟩] w fun e w' => e = ansV (usedD D' s) ∧ Hid (L2 w0 w' X pb rb D D') := by
  obtain ⟨S, T, h1, h2, h3, h4⟩ := h.both
  exact (rused_any h2 s).mono fun e w' ⟨he, hb⟩ => ⟨he, h.below hb⟩
/-- the entries lie in a block that is kept, or in one from before the law -/
theorem l2_rtake (h : L2 w0 w X pb rb D D') (s : Option Addr) (es : List E) (c : Nat) (hn : es.length < 1152921504606846976) (hr : ERow w s es) (hs : ∀ p o, s = some ⟨p, o, none⟩ → p < w0.heap.size ∨ X p ≠ none) :
    Calls Try.prog 24 #[.pointer (some ⟨rb, 0, none⟩), .slice s es.length c] w fun e w' => e = .returned (.int .i64 (takeD D' es).1) ∧ Hid (L2 w0 w' X pb rb D (takeD D' es).2) := by
  obtain ⟨S, T, h1, h2, h3, h4⟩ := h.both
  refine (rtake_any h2 s es c hn hr fun p o e q => ?_).mono fun e w' ⟨he, hh⟩ => ⟨he, by obtain ⟨T', hl, hst⟩ := hh.out; exact L2.stepR h.bel h.kept h1 h3 h4 hl hst⟩
  rcases hs p o e with h5 | h5
  · have := (h4 p q).1
    omega
  · exact h5 (h4 p q).2
theorem l2_rgive (h : L2 w0 w X pb rb D D') (s : Option Addr) (es : List E) (c : Nat) (hn : es.length < 1152921504606846976) (hr : ERow w s es) (hs : ∀ p o, s = some ⟨p, o, none⟩ → p < w0.heap.size ∨ X p ≠ none) :
    Calls Try.prog 30 #[.pointer (some ⟨rb, 0, none⟩), .slice s es.length c] w fun e w' => e = .returned (.int .i64 (giveD D' es).1) ∧ Hid (L2 w0 w' X pb rb D (giveD D' es).2) := by
  obtain ⟨S, T, h1, h2, h3, h4⟩ := h.both
  refine (rgive_any h2 s es c hn hr fun p o e q => ?_).mono fun e w' ⟨he, hh⟩ => ⟨he, by obtain ⟨T', hl, hst⟩ := hh.out; exact L2.stepR h.bel h.kept h1 h3 h4 hl hst⟩
  rcases hs p o e with h5 | h5
  · have := (h4 p q).1
    omega
  · exact h5 (h4 p q).2
end
end Go.Proofs.Ytehgcaaeifnjeaa
