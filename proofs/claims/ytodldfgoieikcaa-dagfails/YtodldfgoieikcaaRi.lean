/-
  What failed ones, and done ones, stand above; the reference's Fail: what it is made of.
-/
import Derived.Test.YtodldfgoieikcaaRh
namespace Go.Proofs.Ytodldfgoieikcaa
open Go.RowKit Go.Maps

/-- below what failed nothing is open, above what is done all is done -/
structure Inv (g : GS) : Prop where
  a : ∀ j m, j < 101 → m < 101 → g.st j = 1 → g.ps j m = true → g.st m ≠ 3
  b : ∀ j m, j < 101 → m < 101 → g.st j = 2 → g.ps j m = true → g.st m = 2
  z : ∀ j m, j < 101 → m < 101 → g.st j = 0 → g.ps j m = false
  s : ∀ j, j < 101 → g.st j ≤ 3
theorem inv_zero : Inv g0 := ⟨fun j m _ _ h => (by cases h), fun j m _ _ h => (by cases h), fun _ _ _ _ _ => rfl, fun _ _ => Nat.zero_le _⟩
theorem Inv.not3 {g : GS} (h : Inv g) {j i : Nat} (hj : j < 101) (hs : g.st j = 1) (q : Rch g.ps (g.ps j) i) : g.st i ≠ 3 := by
  induction q with
  | base h1 h2 => exact h.a j _ hj h1 hs h2
  | @step i y h1 h2 h3 ih =>
    have hi := h1.lt
    have := h.s i hi
    have h0 : g.st i ≠ 0 := fun e => by rw [h.z i y hi h2 e] at h3; cases h3
    by_cases e1 : g.st i = 1
    · exact h.a i y hi h2 e1 h3
    · have e2 : g.st i = 2 := by omega
      rw [h.b i y hi h2 e2 h3]
      omega
theorem Rch.up {ps : Nat → Nat → Bool} {s : Nat → Bool} {k y : Nat} (hk : Rch ps s k) (q : Rch ps (ps k) y) : Rch ps s y := by
  induction q with
  | base h1 h2 => exact .step hk h1 h2
  | step _ h2 h3 ih => exact .step ih h2 h3
theorem Inv.dsc {g : GS} (h : Inv g) {ix j : Nat} (hj : j < 101) (hx : ix < 101) (hsx : g.st ix = 1) : Dsc g ix j ↔ g.st j = 1 ∧ j ≠ ix ∧ Rch g.ps (g.ps j) ix := by
  constructor
  · intro q
    refine ⟨q.op, q.ne, ?_⟩
    induction q with
    | base h1 h2 h3 h4 => exact .base hx h4
    | step h0 h1 h2 h3 h4 ih => exact Rch.up (.base h0.lt h4) (ih h0.lt)
  · rintro ⟨h1, h2, h3⟩
    have key : ∀ y, Rch g.ps (g.ps j) y → (y = ix ∨ Dsc g ix y) → Dsc g ix j := by
      intro y q
      induction q with
      | base k1 k2 =>
        rintro (rfl | e)
        · exact .base hj h1 h2 k2
        · exact .step e hj h1 h2 k2
      | @step i y k1 k2 k3 ih =>
        intro e
        have hi := k1.lt
        have hn3 := h.not3 hj h1 k1
        have hs := h.s i hi
        have h0 : g.st i ≠ 0 := fun e => by rw [h.z i y hi k2 e] at k3; cases k3
        have hy1 : g.st y = 1 := by
          rcases e with rfl | e
          · exact hsx
          · exact e.op
        have h2' : g.st i ≠ 2 := fun q => by have := h.b i y hi k2 q k3; omega
        have h1' : g.st i = 1 := by omega
        apply ih
        by_cases hix : i = ix
        · exact .inl hix
        · right
          rcases e with rfl | e
          · exact .base hi h1' hix k3
          · exact .step e hi h1' hix k3
    exact key ix h3 (.inl rfl)
theorem Inv.add {g g' : GS} {x : Int} {E : List Int} {a : Bool} {e : Int} (h : Inv g) (hr : AddR g x E a e g') : Inv g' := by
  cases hr with
  | range => exact h
  | twice => exact h
  | cycle => exact h
  | state => exact h
  | ok i h1 h2 h3 h4 h5 h6 h7 =>
    have hno : ∀ m, m < 101 → stI E m = true → g.st m ≠ 3 := fun m hm hs e => by
      rw [afB_iff.2 ⟨m, hm, hs, e⟩] at h7
      cases h7
    unfold GS.add
    refine ⟨fun j m hj hm hs hp => ?_, fun j m hj hm hs hp => ?_, fun j m hj hm hs => ?_, fun j hj => ?_⟩
    · simp only [] at hs hp ⊢
      by_cases em : m = i
      · rw [if_pos em]; omega
      · rw [if_neg em]
        by_cases ej : j = i
        · rw [if_pos ej] at hp; exact hno m hm hp
        · rw [if_neg ej] at hs hp; exact h.a j m hj hm hs hp
    · simp only [] at hs hp ⊢
      by_cases ej : j = i
      · rw [if_pos ej] at hs; omega
      · rw [if_neg ej] at hs hp
        have := h.b j m hj hm hs hp
        by_cases em : m = i
        · rw [em, h5] at this; omega
        · rw [if_neg em]; exact this
    · simp only [] at hs ⊢
      by_cases ej : j = i
      · rw [if_pos ej] at hs; omega
      · rw [if_neg ej] at hs ⊢; exact h.z j m hj hm hs
    · simp only []
      by_cases ej : j = i
      · rw [if_pos ej]; omega
      · rw [if_neg ej]; exact h.s j hj
theorem Inv.done {g g' : GS} {x : Int} {E : List Int} {e : Int} (h : Inv g) (hr : DoneR g x E e g') : Inv g' := by
  cases hr with
  | none => exact h
  | state => exact h
  | ok i h1 h2 h3 h4 =>
    obtain ⟨k1, k2⟩ := frB_iff.1 h4
    unfold GS.sett
    refine ⟨fun j m hj hm hs hp => ?_, fun j m hj hm hs hp => ?_, fun j m hj hm hs => ?_, fun j hj => ?_⟩
    · simp only [] at hs hp ⊢
      by_cases em : m = i
      · rw [if_pos em]; omega
      · rw [if_neg em]
        by_cases ej : j = i
        · rw [if_pos ej] at hs; omega
        · rw [if_neg ej] at hs; exact h.a j m hj hm hs hp
    · simp only [] at hs hp ⊢
      by_cases em : m = i
      · rw [if_pos em]
      · rw [if_neg em]
        by_cases ej : j = i
        · rw [ej] at hp; exact k2 m hm hp
        · rw [if_neg ej] at hs; exact h.b j m hj hm hs hp
    · simp only [] at hs ⊢
      by_cases ej : j = i
      · rw [if_pos ej] at hs; omega
      · rw [if_neg ej] at hs; exact h.z j m hj hm hs
    · simp only []
      by_cases ej : j = i
      · rw [if_pos ej]; omega
      · rw [if_neg ej]; exact h.s j hj
theorem Inv.fail {g g' : GS} {x : Int} {E : List Int} {e : Int} (h : Inv g) (hr : FailR g x E e g') : Inv g' := by
  cases hr with
  | none => exact h
  | state => exact h
  | ok i f h1 h2 h3 h4 hf =>
    unfold GS.fails
    refine ⟨fun j m hj hm hs hp => ?_, fun j m hj hm hs hp => ?_, fun j m hj hm hs => ?_, fun j hj => ?_⟩
    · simp only [] at hs hp ⊢
      split at hs
      · omega
      · rename_i hn
        have hj1 : j ≠ i := fun q => hn (.inl q)
        have hj2 : ¬ f j = true := fun q => hn (.inr q)
        split
        · rename_i hm'
          exfalso
          rcases hm' with rfl | hfm
          · exact hj2 ((hf j).2 (.base hj hs hj1 hp))
          · exact hj2 ((hf j).2 (.step ((hf m).1 hfm) hj hs hj1 hp))
        · exact h.a j m hj hm hs hp
    · simp only [] at hs hp ⊢
      split at hs
      · omega
      · have := h.b j m hj hm hs hp
        split
        · rename_i hm'
          exfalso
          rcases hm' with rfl | hfm
          · omega
          · have := ((hf m).1 hfm).op
            omega
        · exact this
    · simp only [] at hs ⊢
      split at hs
      · omega
      · exact h.z j m hj hm hs
    · simp only []
      split
      · omega
      · exact h.s j hj
/-- while those that fail are gathered -/
structure Fl (g : GS) (ix : Nat) (R : List JB) (i : Nat) (F : List Int) : Prop where
  s : Ris F
  l : F.length ≤ i
  m : ∀ y, y ∈ F ↔ ∃ (j : Nat) (b : JB), j < i ∧ R[j]? = some b ∧ y = b.id ∧ b.id ≠ ix ∧ b.st = 1 ∧ Rch g.ps (g.ps b.id) ix
theorem Fl.start (g : GS) (ix : Nat) (R : List JB) : Fl g ix R 0 [] := ⟨List.Pairwise.nil, Nat.le_refl _, fun y => ⟨(fun h => by cases h), (fun ⟨j, _, h, _⟩ => by omega)⟩⟩
theorem Fl.no {g : GS} {ix i : Nat} {R : List JB} {F : List Int} {b : JB} (h : Fl g ix R i F) (hb : R[i]? = some b) (hn : ¬ (b.id ≠ ix ∧ b.st = 1 ∧ Rch g.ps (g.ps b.id) ix)) : Fl g ix R (i + 1) F := by
  refine ⟨h.s, by have := h.l; omega, fun y => ?_⟩
  rw [h.m]
  constructor
  · rintro ⟨j, a, h1, h2⟩; exact ⟨j, a, by omega, h2⟩
  · rintro ⟨j, a, h1, h2, h3, h4⟩
    by_cases e : j = i
    · subst e; rw [hb] at h2; cases h2; exact absurd h4 hn
    · exact ⟨j, a, by omega, h2, h3, h4⟩
theorem Fl.yes {g : GS} {ix i : Nat} {R : List JB} {F : List Int} {b : JB} (h : Fl g ix R i F) (hj : Jok R) (hb : R[i]? = some b) (hn : b.id ≠ ix ∧ b.st = 1 ∧ Rch g.ps (g.ps b.id) ix) : Fl g ix R (i + 1) (F ++ [(b.id : Int)]) := by
  refine ⟨?_, by have := h.l; simp; omega, fun y => ?_⟩
  · unfold Ris
    rw [List.pairwise_append]
    refine ⟨h.s, by simp, fun y hy z hz => ?_⟩
    simp at hz
    subst hz
    obtain ⟨j, a, h1, h2, rfl, _⟩ := (h.m y).1 hy
    have := hj.lt h1 h2 hb
    omega
  · rw [List.mem_append, h.m]
    simp only [List.mem_singleton]
    constructor
    · rintro (⟨j, a, h1, h2⟩ | rfl)
      · exact ⟨j, a, by omega, h2⟩
      · exact ⟨i, b, by omega, hb, rfl, hn⟩
    · rintro ⟨j, a, h1, h2, h3, h4⟩
      by_cases e : j = i
      · subst e; rw [hb] at h2; cases h2; exact .inr h3
      · exact .inl ⟨j, a, by omega, h2, h3, h4⟩
theorem Fl.all {g : GS} {ix : Nat} {R : List JB} {F : List Int} (h : Fl g ix R R.length F) (hr : Rel g R) (hj : Jok R) (hi : Inv g) (hx : ix < 101) (hs : g.st ix = 1) : (∀ j, stI F j = true ↔ Dsc g ix j) ∧ F = lsI (stI F) := by
  have hm : ∀ j : Nat, (j : Int) ∈ F ↔ Dsc g ix j := fun j => by
    rw [h.m]
    constructor
    · rintro ⟨k, b, h1, h2, h3, h4, h5, h6⟩
      have hbm := List.mem_of_getElem? h2
      have e : j = b.id := by omega
      subst e
      exact (hi.dsc (by have := (hj.g b hbm).2.1; omega) hx hs).2 ⟨by rw [(hr.a b hbm).1]; exact h5, h4, h6⟩
    · intro q
      have hjl := q.lt
      obtain ⟨k1, k2, k3⟩ := (hi.dsc hjl hx hs).1 q
      have hxx : ∃ a ∈ R, a.id = j := by
        by_cases hxx : ∃ a ∈ R, a.id = j
        · exact hxx
        · have := (hr.z j hjl fun a ha e => hxx ⟨a, ha, e⟩).1
          omega
      obtain ⟨a, ha, rfl⟩ := hxx
      obtain ⟨k, hk⟩ := List.getElem?_of_mem ha
      exact ⟨k, a, (List.getElem?_eq_some_iff.1 hk).1, hk, rfl, k2, by rw [← (hr.a a ha).1]; exact k1, k3⟩
  refine ⟨fun j => by unfold stI; rw [inB_iff]; exact hm j, ris_ext h.s (lsI_ris _) fun y => ?_⟩
  rw [mem_lsI]
  constructor
  · intro hy
    obtain ⟨j, b, h1, h2, h3, h4⟩ := (h.m y).1 hy
    have := (hj.g b (List.mem_of_getElem? h2)).2.1
    exact ⟨b.id, h3, by omega, by unfold stI; rw [inB_iff, ← h3]; exact hy⟩
  · rintro ⟨j, rfl, h1, h2⟩
    unfold stI at h2
    rw [inB_iff] at h2
    exact h2
end Go.Proofs.Ytodldfgoieikcaa
