/-
  ShareTurns' law.
-/
import Derived.Test.YtcgaekaollhmpaaGreatSi
namespace Go.Proofs.YtcgaekaollhmpaaGreat
open Go.RowKit Go.Maps

theorem uC_one (u : U) : ∀ x ∈ uC u, x.oneCell' = true := by
  intro x hx
  simp only [uC, List.mem_cons, List.not_mem_nil, or_false] at hx
  rcases hx with rfl | rfl | rfl | rfl | rfl | rfl <;> rfl
theorem info37 : (Tryz.prog.info? 37).map (fun i => (i.zero, i.size, i.bytes)) = some (some (.agg #[.string ⟨#[]⟩, .int .i64 0, .int .i64 0, .int .i64 0, .int .i64 0, .int .i64 0]), 6, 56) := by kernel_rfl
theorem uarg_row {b : Nat} {w : World} {q : Option Addr} {n c : Nat} {L : List U} (h : GRow 37 6 uC b w (.slice q n c) L) (hs : ∀ u ∈ L, u.nm.length ≤ 281474976710656) : UArg w q L := by
  refine ⟨fun i u hu => ?_, hs⟩
  obtain ⟨g, rfl, hc⟩ := h.at uC_len hu
  refine ⟨g, 0, rfl, ?_, ?_, ?_, ?_, ?_, ?_⟩
  · have := hc 0 _ rfl; simpa using this
  · have := hc 1 _ rfl; simpa using this
  · have := hc 2 _ rfl; simpa using this
  · have := hc 3 _ rfl; simpa using this
  · have := hc 4 _ rfl; simpa using this
  · have := hc 5 _ rfl; simpa using this
/-- a stretch of the usages that came in -/
theorem UArg.rowV {w : World} {g f : Nat} {L : List U} (h : UArg w (some ⟨g, f, none⟩) L) (r m : Nat) : RowV w g (f + r * 6) (((L.drop r).take m).flatMap uC) := fun k x hk => by
  have hk2 : k < (((L.drop r).take m).flatMap uC).length := (List.getElem?_eq_some_iff.1 hk).1
  rw [flat_length uC_len] at hk2
  have hi : k / 6 < ((L.drop r).take m).length := by omega
  obtain ⟨u, hu⟩ : ∃ u, ((L.drop r).take m)[k / 6]? = some u := ⟨_, List.getElem?_eq_getElem hi⟩
  have hu2 : L[r + k / 6]? = some u := by
    rw [List.getElem?_take] at hu
    split at hu
    · rw [List.getElem?_drop] at hu; exact hu
    · cases hu
  have e := cs_get uC_len hu (k % 6) (by omega)
  rw [show k / 6 * 6 + k % 6 = k by omega, hk] at e
  obtain ⟨g', f', e1, h0, h1, h2, h3, h4, h5⟩ := h.c _ u hu2
  cases e1
  have e6 : k % 6 = 0 ∨ k % 6 = 1 ∨ k % 6 = 2 ∨ k % 6 = 3 ∨ k % 6 = 4 ∨ k % 6 = 5 := by omega
  rcases e6 with q | q | q | q | q | q <;> rw [q] at e <;> cases e
  · rw [show f + r * 6 + k = f + (r + k / 6) * 6 by omega]; exact h0
  · rw [show f + r * 6 + k = f + (r + k / 6) * 6 + 1 by omega]; exact h1
  · rw [show f + r * 6 + k = f + (r + k / 6) * 6 + 2 by omega]; exact h2
  · rw [show f + r * 6 + k = f + (r + k / 6) * 6 + 3 by omega]; exact h3
  · rw [show f + r * 6 + k = f + (r + k / 6) * 6 + 4 by omega]; exact h4
  · rw [show f + r * 6 + k = f + (r + k / 6) * 6 + 5 by omega]; exact h5
theorem OrdR.perm {all : Vs.V} {L L' : List U} {e e' : Nat} {R R' : List Tn} (p : L.Perm L') (h : OrdR all L e R) (h' : OrdR all L' e' R') : (e = 0 ↔ e' = 0) ∧ R = R' := by
  have hf : fstE all L = 0 ↔ fstE all L' = 0 := by
    rw [fstE_zero, fstE_zero]
    exact ⟨fun q u hu => q u (p.mem_iff.2 hu), fun q u hu => q u (p.mem_iff.1 hu)⟩
  have hn : Nd L ↔ Nd L' := p.pairwise_iff (R := fun a b : U => a.nm ≠ b.nm) (fun q => Ne.symm q)
  rcases h with ⟨h1, h2, h3⟩ | ⟨h1, h2, h3, h4⟩ | ⟨h1, h2, h3, h4, h5⟩ <;> rcases h' with ⟨k1, k2, k3⟩ | ⟨k1, k2, k3, k4⟩ | ⟨k1, k2, k3, k4, k5⟩
  · exact ⟨⟨fun q => absurd q h2, fun q => absurd q k2⟩, h3.trans k3.symm⟩
  · rw [hf.2 k1] at h1; exact absurd h1 h2
  · rw [hf.2 k1] at h1; exact absurd h1 h2
  · rw [hf.1 h1] at k1; exact absurd k1 k2
  · exact ⟨by omega, h4.trans k4.symm⟩
  · exact absurd (hn.2 k2) h2
  · rw [hf.1 h1] at k1; exact absurd k1 k2
  · exact absurd (hn.1 h2) k2
  · exact ⟨by omega, List.Perm.eq_of_pairwise (le := tb) (fun a b _ _ q r => (tb_asym q r).elim) h5 k5 (h4.trans ((p.map (ten all)).trans k4.symm))⟩
end Go.Proofs.YtcgaekaollhmpaaGreat
