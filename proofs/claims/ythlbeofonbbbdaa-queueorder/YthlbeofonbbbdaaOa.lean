/-
  A queue that is emptied from its heads, tenant by tenant: the mathematics.
-/
import Derived.Test.YthlbeofonbbbdaaTn
namespace Go.Proofs.Ythlbeofonbbbdaa
open Go.RowKit Go.Maps Go.WideMaps

theorem tens_head {D : List J} {t : List UInt8} {T : List (List UInt8)} (h : tens D = t :: T) : ∃ a r, D = a :: r ∧ a.tn = t := by
  induction D generalizing t T with
  | nil => simp [tens] at h
  | cons a r ih =>
    refine ⟨a, r, rfl, ?_⟩
    cases r with
    | nil => simp [tens] at h; exact h.1
    | cons b s =>
      rw [tens] at h
      simp only [List.head?_cons] at h
      split at h
      · rename_i e
        obtain ⟨a', r', e1, e2⟩ := ih h
        cases e1
        rw [e]; exact e2
      · exact (List.cons.inj h).1
/-- while a tenant's waiters are taken from the head: what is left of them, and the tenants that are left -/
def Em (D : List J) (t : List UInt8) (l : List J) (T : List (List UInt8)) : Prop := SJ D ∧ NJ D ∧ ofT t D = l ∧ tens D = if l = [] then T else t :: T
theorem em_start {D : List J} {t : List UInt8} {T : List (List UInt8)} (hs : SJ D) (hn : NJ D) (h : tens D = t :: T) : Em D t (ofT t D) T ∧ ofT t D ≠ [] := by
  obtain ⟨a, r, rfl, rfl⟩ := tens_head h
  have : ofT a.tn (a :: r) ≠ [] := by unfold ofT; rw [List.filter_cons_of_pos (by simp)]; exact List.cons_ne_nil _ _
  exact ⟨⟨hs, hn, rfl, by rw [if_neg this]; exact h⟩, this⟩
theorem em_step {D : List J} {t : List UInt8} {a : J} {l : List J} {T : List (List UInt8)} (h : Em D t (a :: l) T) :
    a.tn = t ∧ headD D t = (a, 0) ∧ fJ a.job D = some a ∧ ∃ D', remD D a.job = (0, D') ∧ D = a :: D' ∧ Em D' t l T := by
  obtain ⟨hs, hn, ho, ht⟩ := h
  rw [if_neg (List.cons_ne_nil _ _)] at ht
  obtain ⟨b, r, rfl, hb⟩ := tens_head ht
  have h1 := List.pairwise_cons.1 hs
  have n1 := List.pairwise_cons.1 hn
  have e1 : ofT t (b :: r) = b :: ofT t r := by unfold ofT; rw [List.filter_cons_of_pos (by simp [hb])]
  rw [e1] at ho
  obtain ⟨rfl, rfl⟩ := List.cons.inj ho
  have hf : fJ b.job (b :: r) = some b := fJ_self hn (List.mem_cons_self ..)
  have hd : dJ b.job (b :: r) = r := by
    unfold dJ
    rw [List.filter_cons_of_neg (by simp)]
    exact List.filter_eq_self.2 fun x hx => by simpa using (n1.1 x hx).symm
  refine ⟨hb, by unfold headD; rw [e1]; rfl, hf, r, by unfold remD; rw [hf, hd], rfl, h1.2, n1.2, rfl, ?_⟩
  cases r with
  | nil => simp [tens] at ht; simp [ofT, tens, ht.2]
  | cons c s =>
    rw [tens] at ht
    simp only [List.head?_cons] at ht
    by_cases e : b.tn = c.tn
    · rw [if_pos e] at ht
      rw [if_neg, ht]
      unfold ofT
      rw [List.filter_cons_of_pos (by simp [← hb, e])]
      exact List.cons_ne_nil _ _
    · rw [if_neg e] at ht
      rw [if_pos, (List.cons.inj ht).2]
      refine List.filter_eq_nil_iff.2 fun x hx => ?_
      have hbc : bytesBefore b.tn c.tn = true := by
        have := h1.1 c (List.mem_cons_self ..)
        unfold bf at this
        rwa [if_neg e] at this
      intro q
      have hxt : x.tn = t := by simpa using q
      rcases List.mem_cons.1 hx with rfl | hx
      · exact e (hb.trans hxt.symm)
      · have h2 := (List.pairwise_cons.1 h1.2).1 x hx
        unfold bf at h2
        rw [if_neg (fun q => e (hb.trans (hxt.symm.trans q.symm))), hxt, ← hb] at h2
        exact bb_asym hbc h2
theorem em_end {D : List J} {t : List UInt8} {T : List (List UInt8)} (h : Em D t [] T) : headD D t = (jz, 3) ∧ tens D = T := by
  obtain ⟨hs, hn, ho, ht⟩ := h
  exact ⟨by unfold headD; rw [ho]; rfl, by simpa using ht⟩
theorem tens_nil {D : List J} (h : tens D = []) : D = [] := by
  cases D with
  | nil => rfl
  | cons a r =>
    have : a.tn ∈ tens (a :: r) := mem_tens.2 ⟨a, List.mem_cons_self .., rfl⟩
    rw [h] at this
    cases this
theorem ofT_jl {D : List J} (hs : SJ D) {t : List UInt8} {k : Nat} {a b : J} (ha : (ofT t D)[k]? = some a) (hb : (ofT t D)[k + 1]? = some b) : jl a b = true := by
  have hp : SJ (ofT t D) := List.Pairwise.filter _ hs
  obtain ⟨l1, e1⟩ := List.getElem?_eq_some_iff.1 ha
  obtain ⟨l2, e2⟩ := List.getElem?_eq_some_iff.1 hb
  have := List.pairwise_iff_getElem.1 hp k (k + 1) l1 l2 (by omega)
  rw [e1, e2] at this
  have t1 : a.tn = t := by have := (List.mem_filter.1 (List.mem_of_getElem? ha)).2; simpa using this
  have t2 : b.tn = t := by have := (List.mem_filter.1 (List.mem_of_getElem? hb)).2; simpa using this
  unfold bf at this
  rwa [if_pos (t1.trans t2.symm)] at this
theorem tens_lt {D : List J} (hs : SJ D) {i : Nat} {x y : List UInt8} (hx : (tens D)[i]? = some x) (hy : (tens D)[i + 1]? = some y) : bytesBefore x y = true := by
  obtain ⟨l1, e1⟩ := List.getElem?_eq_some_iff.1 hx
  obtain ⟨l2, e2⟩ := List.getElem?_eq_some_iff.1 hy
  have := List.pairwise_iff_getElem.1 (srt_tens hs) i (i + 1) l1 l2 (by omega)
  rwa [e1, e2] at this
end Go.Proofs.Ythlbeofonbbbdaa
