/-
  Both ledgers that hold the same: a call on the one, then the same on the other.
-/
import Derived.Test.YtehgcaaeifnjeaaTa
namespace Go.Proofs.Ytehgcaaeifnjeaa
open Go.RowKit Go.Maps Go.WideMaps

/-- both hold the same -/
def P0 (w0 w : World) (X : Nat → Option Obj) (pb rb : Nat) : Prop := ∃ D, L2 w0 w X pb rb D D
/-- the program's has done a call, the document's not yet -/
structure P1 (w0 w : World) (X : Nat → Option Obj) (pb rb m : Nat) (f : List A → Int × List A) (r : Int) : Prop where
  bel : Below w0.heap.size w0 w
  both : ∃ D S T, Led w S pb (f D).2 ∧ Ref w T rb D ∧ (∀ k, S k → w0.heap.size ≤ k ∧ X k = none ∧ ¬ T k) ∧ (∀ k, T k → w0.heap.size ≤ k ∧ X k = none ∧ k < m) ∧ (f D).1 = r
  kept : ∀ k o, X k = some o → w.heap[k]? = some o
section
variable {w0 w W : World} {X : Nat → Option Obj} {pb rb m fn : Nat} {f : List A → Int × List A} {r : Int} {args : Array Value}
theorem P0.below (h : P0 w0 w X pb rb) (b : Below w.heap.size w W) : P0 w0 W X pb rb := by
  obtain ⟨D, h⟩ := h
  exact ⟨D, h.below b⟩
theorem P0.bel (h : P0 w0 w X pb rb) : Below w0.heap.size w0 w := by
  obtain ⟨D, h⟩ := h
  exact h.bel
theorem P0.kept (h : P0 w0 w X pb rb) : ∀ k o, X k = some o → w.heap[k]? = some o := by
  obtain ⟨D, h⟩ := h
  exact h.kept
theorem p1_of (h : P0 w0 w X pb rb) (b : Below w.heap.size w W) (hc : ∀ S D, Led W S pb D → Calls Try.prog fn args W fun e w' => e = .returned (.int .i64 (f D).1) ∧ ∃ S', Led w' S' pb (f D).2 ∧ Step S S' W w') :
    Calls Try.prog fn args W fun e w' => ∃ r, e = .returned (.int .i64 r) ∧ Hid (P1 w0 w' X pb rb w.heap.size f r ∧ W.heap.size ≤ w'.heap.size ∧ ∀ k o, w.heap.size ≤ k → W.heap[k]? = some o → w'.heap[k]? = some o) := by
  obtain ⟨D, h⟩ := h
  obtain ⟨S, T, h1, h2, h3, h4⟩ := h.both
  have hb' := h.below b
  refine (hc S D (h1.keepB b)).mono fun e w' ⟨he, S', hl, hst⟩ => ⟨_, he, ⟨?_, ⟨D, S', T, hl, ?_, fun k hk => ?_, fun k hk => ⟨(h4 k hk).1, (h4 k hk).2, h2.2 k hk⟩, rfl⟩, fun k o hx => ?_⟩, hst.1.size, fun k o hk ho => ?_⟩
  · exact hb'.bel.trans (hst.1.below hb'.bel.size fun k q1 q => by have := (h3 k q).1; omega)
  · have h2' := h2.keepB b
    exact h2'.keep (fun k q1 => hst.1.block k (h2'.2 k q1) fun q => (h3 k q).2.2 q1) hst.1.size
  · rcases hst.2 k hk with q | q
    · exact h3 k q
    · refine ⟨Nat.le_trans hb'.bel.size q, kept_lt hb'.kept q, fun q2 => ?_⟩
      have := h2.2 k q2
      have := b.size
      omega
  · have q1 := hb'.kept k o hx
    refine (hst.1.block k (Array.getElem?_eq_some_iff.1 q1).1 fun q => ?_).trans q1
    rw [(h3 k q).2.1] at hx
    cases hx
  · refine (hst.1.block k (Array.getElem?_eq_some_iff.1 ho).1 fun q => ?_).trans ho
    have := h1.2 k q
    omega
theorem p0_of (h : P1 w0 w X pb rb m f r) (b : Below w.heap.size w W) (hc : ∀ T D, Ref W T rb D → (∀ k, T k → k < m) → Calls Try.prog fn args W fun e w' => e = .returned (.int .i64 (f D).1) ∧ Hid (∃ T', Ref w' T' rb (f D).2 ∧ Step T T' W w')) :
    Calls Try.prog fn args W fun e w' => e = .returned (.int .i64 r) ∧ Hid (P0 w0 w' X pb rb) := by
  obtain ⟨D, S, T, h1, h2, h3, h4, hr⟩ := h.both
  subst hr
  refine (hc T D (h2.keepB b) fun k hk => (h4 k hk).2.2).mono fun e w' ⟨he, hh⟩ => ⟨he, ?_⟩
  obtain ⟨T', hl, hst⟩ := hh.out
  exact ⟨_, L2.stepR (h.bel.trans (b.mono h.bel.size)) (fun k o hx => at_below b (Nat.le_refl _) (h.kept k o hx)) (h1.keepB b) h3 (fun k hk => ⟨(h4 k hk).1, (h4 k hk).2.1⟩) hl hst⟩
theorem P1.below (h : P1 w0 w X pb rb m f r) (b : Below w.heap.size w W) : P1 w0 W X pb rb m f r := by
  obtain ⟨D, S, T, h1, h2, h3, h4, hr⟩ := h.both
  exact ⟨h.bel.trans (b.mono h.bel.size), ⟨D, S, T, h1.keepB b, h2.keepB b, h3, h4, hr⟩, fun k o hx => at_below b (Nat.le_refl _) (h.kept k o hx)⟩
/-- the document's new ledger -/
theorem ref_new (w : World) : Ref (w.alloc (.cells #[.slice none 0 0] 30 (0, 0))) (· = w.heap.size) w.heap.size [] :=
  ⟨⟨none, 0, 0, ⟨new0, GRow.nil _ _ _ _ _, List.Pairwise.nil, Nat.zero_le _, fun _ h => nomatch h⟩, fun k hk => by
    rcases hk with h | h
    · exact h
    · cases h⟩, fun k hk => by rw [show k = w.heap.size from hk, World.size_alloc]; omega⟩
theorem p0_new (b : Below w0.heap.size w0 w) (hX : ∀ k o, X k = some o → w.heap[k]? = some o) : P0 w0 ((w.alloc (.cells #[.map none] 61 (0, 0))).alloc (.cells #[.slice none 0 0] 30 (0, 0))) X w.heap.size (w.heap.size + 1) := by
  have h1 := led_new w
  have h2 := ref_new (w.alloc (.cells #[.map none] 61 (0, 0)))
  rw [World.size_alloc] at h2
  have b1 : Below w.heap.size w (w.alloc (.cells #[.map none] 61 (0, 0))) := (Below.refl _ _).alloc (Nat.le_refl _) _
  have b2 : Below (w.alloc (.cells #[.map none] 61 (0, 0))).heap.size (w.alloc (.cells #[.map none] 61 (0, 0))) ((w.alloc (.cells #[.map none] 61 (0, 0))).alloc (.cells #[.slice none 0 0] 30 (0, 0))) := (Below.refl _ _).alloc (Nat.le_refl _) _
  have hb := b.size
  refine ⟨[], (b.alloc b.size _).alloc (by rw [World.size_alloc]; omega) _, ⟨_, _, h1.keepB b2, h2, fun k hk => ?_, fun k hk => ?_⟩, fun k o hk => at_alloc (at_alloc (hX k o hk))⟩
  · have hk' : k = w.heap.size := hk
    exact ⟨by omega, kept_lt hX (by omega), fun q => by have q' : k = w.heap.size + 1 := q; omega⟩
  · have hk' : k = w.heap.size + 1 := hk
    exact ⟨by omega, kept_lt hX (by omega)⟩
end
/-- one entry as it lies -/
theorem erow1' {w : World} {g : Nat} {ty : TypeId} {e : E} (h : w.heap[g]? = some (.cells #[.string e.nm, .int .i64 e.am.a, .int .i64 e.am.b, .int .i64 e.am.c, .int .i64 e.am.d] ty (0, 0))) : ERow w (some ⟨g, 0, none⟩) [e] := erow1 h
end Go.Proofs.Ytehgcaaeifnjeaa
