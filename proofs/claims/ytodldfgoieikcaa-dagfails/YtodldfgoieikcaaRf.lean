/-
  The reference's Add: what it is made of.
-/
import Derived.Test.YtodldfgoieikcaaRe
namespace Go.Proofs.Ytodldfgoieikcaa
open Go.RowKit Go.Maps

theorem ris_ext : ∀ {E F : List Int}, Ris E → Ris F → (∀ x, x ∈ E ↔ x ∈ F) → E = F
  | [], [], _, _, _ => rfl
  | [], y :: F, _, _, h => by have := (h y).2 (by simp); cases this
  | x :: E, [], _, _, h => by have := (h x).1 (by simp); cases this
  | x :: E, y :: F, hE, hF, h => by
    unfold Ris at hE hF
    rw [List.pairwise_cons] at hE hF
    have hxy : x = y := by
      have h1 := (h x).1 (by simp)
      have h2 := (h y).2 (by simp)
      rcases List.mem_cons.1 h1 with q | q
      · exact q
      · rcases List.mem_cons.1 h2 with r | r
        · exact r.symm
        · have := hF.1 x q
          have := hE.1 y r
          omega
    subst hxy
    congr 1
    refine ris_ext hE.2 hF.2 fun z => ?_
    constructor
    · intro q
      rcases List.mem_cons.1 ((h z).1 (List.mem_cons_of_mem _ q)) with r | r
      · have := hE.1 z q; omega
      · exact r
    · intro q
      rcases List.mem_cons.1 ((h z).2 (List.mem_cons_of_mem _ q)) with r | r
      · have := hF.1 z q; omega
      · exact r
theorem Ris.nodup {E : List Int} (h : Ris E) : E.Nodup := by
  unfold Ris at h
  exact h.imp fun q e => by omega
theorem Rch.congr {ps : Nat → Nat → Bool} {s t : Nat → Bool} (h : ∀ i, i < 101 → s i = t i) {i : Nat} (q : Rch ps s i) : Rch ps t i := by
  induction q with
  | base h1 h2 => exact .base h1 (by rw [← h _ h1]; exact h2)
  | step _ h2 h3 ih => exact .step ih h2 h3
theorem stI_lsI (s : Nat → Bool) (i : Nat) (hi : i < 101) : stI (lsI s) i = s i := by
  unfold stI
  cases h : s i
  · rw [inB_no]
    intro q
    obtain ⟨j, e, _, h3⟩ := mem_lsI.1 q
    have : i = j := by omega
    rw [this, h3] at h
    cases h
  · rw [inB_iff]
    exact mem_lsI.2 ⟨i, rfl, hi, h⟩
theorem lsI_ris (s : Nat → Bool) : Ris (lsI s) := lsK_ris s 101
/-- while the parents are gathered -/
structure Pa (E : List Int) (i : Nat) (E1 : List Int) : Prop where
  s : Ris E1
  n : E1.length ≤ 100
  m : (E.take i).all isN = true → ∀ y, y ∈ E1 ↔ y ∈ E.take i
theorem Pa.start (E : List Int) : Pa E 0 [] := ⟨List.Pairwise.nil, by simp, fun _ y => by simp⟩
theorem take_all {E : List Int} {i : Nat} {y : Int} (hy : E[i]? = some y) : (E.take (i + 1)).all isN = ((E.take i).all isN && isN y) := by
  rw [List.take_add_one, hy]
  simp
theorem Pa.put {E E1 E2 : List Int} {i : Nat} {y : Int} (h : Pa E i E1) (hy : E[i]? = some y) (hs : Ris E2) (hn : E2.length ≤ 100) (hm : ∀ z, z ∈ E2 ↔ z = y ∨ z ∈ E1) : Pa E (i + 1) E2 := by
  refine ⟨hs, hn, fun ha z => ?_⟩
  rw [take_all hy, Bool.and_eq_true] at ha
  rw [hm, h.m ha.1, List.take_add_one, hy]
  simp
  exact or_comm
theorem Pa.full {E E1 : List Int} {i : Nat} {y : Int} (h : Pa E i E1) (hy : E[i]? = some y) (hn : ¬ E1.length < 100) : Pa E (i + 1) E1 := by
  refine ⟨h.s, h.n, fun ha z => ?_⟩
  rw [take_all hy, Bool.and_eq_true] at ha
  have hN : ∀ x ∈ E1, isN x = true := fun x hx => by
    have := (h.m ha.1 x).1 hx
    exact (List.all_eq_true.1 ha.1) x this
  have hye : y ∈ E1 := by
    cases e : inB E1 y
    · have h1 := nodup_len (nodup_snoc h.s.nodup (inB_no.1 e)) fun x hx => by
        rcases List.mem_append.1 hx with q | q
        · exact hN x q
        · simp at q; rw [q]; exact ha.2
      simp at h1
      omega
    · exact inB_iff.1 e
  rw [List.take_add_one, hy, h.m ha.1]
  simp
  intro e
  rw [e]
  exact (h.m ha.1 y).1 hye
theorem Pa.all {E E1 : List Int} (h : Pa E E.length E1) (ha : allN E = true) : E1 = lsI (stI E) := by
  refine ris_ext h.s (lsI_ris _) fun y => ?_
  have := h.m (by rw [List.take_length]; exact ha) y
  rw [List.take_length] at this
  rw [this, mem_lsI]
  constructor
  · intro q
    obtain ⟨i, rfl, h1, h2⟩ := isN_nat ((List.all_eq_true.1 ha) y q)
    exact ⟨i, rfl, h2, by unfold stI; rw [inB_iff]; exact q⟩
  · rintro ⟨i, rfl, h1, h2⟩
    unfold stI at h2
    rw [inB_iff] at h2
    exact h2
/-- where a new job is put -/
structure At (R : List JB) (i k : Nat) : Prop where
  le : k ≤ R.length
  a : ∀ (j : Nat) (b : JB), R[j]? = some b → j < k → b.id < i
  b : ∀ (j : Nat) (b : JB), R[j]? = some b → k ≤ j → i < b.id
theorem mem_ins {R : List JB} {b : JB} {k : Nat} : ∀ a, a ∈ R.take k ++ b :: R.drop k ↔ a = b ∨ a ∈ R := by
  intro a
  have : a ∈ R ↔ a ∈ R.take k ∨ a ∈ R.drop k := by
    conv => lhs; rw [← List.take_append_drop k R]
    exact List.mem_append
  rw [this, List.mem_append, List.mem_cons]
  constructor
  · rintro (q | q | q)
    · exact .inr (.inl q)
    · exact .inl q
    · exact .inr (.inr q)
  · rintro (q | q | q)
    · exact .inr (.inl q)
    · exact .inl q
    · exact .inr (.inr q)
theorem Jok.ins {R : List JB} (h : Jok R) {b : JB} {k : Nat} (hk : At R b.id k) (hb : 1 ≤ b.id ∧ b.id ≤ 100 ∧ 1 ≤ b.st ∧ b.st ≤ 3) (hq : b.n = b.ps.length ∧ b.n ≤ 101 ∧ Ris b.ps ∧ ∀ x ∈ b.ps, isN x = true) : Jok (R.take k ++ b :: R.drop k) := by
  refine ⟨?_, fun a ha => ?_, fun a ha => ?_⟩
  · rw [List.pairwise_append, List.pairwise_cons]
    have hs := h.s
    rw [← List.take_append_drop k R, List.pairwise_append] at hs
    refine ⟨hs.1, ⟨fun y hy => ?_, hs.2.1⟩, fun y hy z hz => ?_⟩
    · obtain ⟨i, hi⟩ := List.getElem?_of_mem hy
      rw [List.getElem?_drop] at hi
      exact hk.b (k + i) y hi (by omega)
    · obtain ⟨i, hi⟩ := List.getElem?_of_mem hy
      rw [List.getElem?_take] at hi
      split at hi
      · have hyx := hk.a i y hi (by assumption)
        rcases List.mem_cons.1 hz with rfl | hz
        · exact hyx
        · exact hs.2.2 y hy z hz
      · cases hi
  · rcases (mem_ins a).1 ha with rfl | q
    · exact hb
    · exact h.g a q
  · rcases (mem_ins a).1 ha with rfl | q
    · exact hq
    · exact h.q a q
theorem Rel.ins {g : GS} {R : List JB} (h : Rel g R) {b : JB} {k : Nat} {E : List Int} (hno : ∀ a ∈ R, a.id ≠ b.id) (hst : b.st = 1) (hps : b.ps = lsI (stI E)) (hE : ∀ x ∈ E, isN x = true) : Rel (g.add b.id (stI E)) (R.take k ++ b :: R.drop k) := by
  refine ⟨fun a ha => ?_, fun n hn hq => ?_, fun n j hn hj hp => ?_⟩
  · rcases (mem_ins a).1 ha with rfl | q
    · unfold GS.add
      simp only [if_pos]
      exact ⟨hst.symm, hps⟩
    · have := hno a q
      unfold GS.add
      simp only [if_neg this]
      exact h.a a q
  · have hnb : n ≠ b.id := fun e => hq b ((mem_ins b).2 (.inl rfl)) e.symm
    unfold GS.add
    simp only [if_neg hnb]
    exact h.z n hn fun a ha => hq a ((mem_ins a).2 (.inr ha))
  · unfold GS.add at hp
    simp only [] at hp
    by_cases e : n = b.id
    · rw [if_pos e] at hp
      unfold stI at hp
      rw [inB_iff] at hp
      have := isN_iff.1 (hE _ hp)
      omega
    · rw [if_neg e] at hp
      exact h.o n j hn hj hp
theorem Ip.done {w W : World} {bs rb bx g n c k : Nat} {v : Value} {R : List JB} {b : JB} (h : Ip w W bs rb bx v g n c R b (R.take k ++ b :: R.drop k)) (hn : n = R.length) (hj : Jok (R.take k ++ b :: R.drop k)) : Rm W bs rb (.slice (some ⟨g, 0, none⟩) (n + 1) c) (R.take k ++ b :: R.drop k) := by
  refine ⟨h.hb, ?_, fun a ha => ?_, hj⟩
  · rw [show (R.take k ++ b :: R.drop k).length = n + 1 by simp; omega]
    exact h.r
  · rcases (mem_ins a).1 ha with rfl | q
    · exact h.q
    · exact h.p a q
/-- what Add leaves -/
def RadP (w w' : World) (bs rb : Nat) (v : Value) (g : GS) (x : Int) (E : List Int) (a : Bool) (er : Int) : Prop := ∃ g' R' v', AddR g x E a er g' ∧ Rm w' bs rb v' R' ∧ Rel g' R' ∧ Kp (Rb rb v) w w'
end Go.Proofs.Ytodldfgoieikcaa
