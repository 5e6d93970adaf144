/-
  Plain mathematics: takes in any order.
-/
import Derived.Test.YtkfpbpkadkhhnaaLc
namespace Go.Proofs.Ytkfpbpkadkhhnaa

/-- what is free behind takes, one by one -/
def plF : (Int → V) → List Opr → Int → V
  | f, [] => f
  | f, o :: r => plF (tkF f o.a o.b o.v) r
/-- all of them are taken -/
def AllT : (Int → V) → List Opr → Prop
  | _, [] => True
  | f, o :: r => o.v.ok = true ∧ spn o.a o.b = true ∧ Fits f o.a o.b o.v ∧ AllT (tkF f o.a o.b o.v) r
/-- what a list of takes takes at a tick -/
def sumT : List Opr → Int → V
  | [], _ => V.nil
  | o :: r, u => if o.a ≤ u ∧ u < o.b then o.v.add (sumT r u) else sumT r u
theorem sumT_cons (o : Opr) (r : List Opr) (u : Int) : sumT (o :: r) u = if o.a ≤ u ∧ u < o.b then o.v.add (sumT r u) else sumT r u := rfl
theorem plF_sum : ∀ (L : List Opr) (f : Int → V) (u : Int), plF f L u = (f u).sub (sumT L u)
  | [], f, u => by unfold plF sumT V.sub V.nil; simp
  | o :: r, f, u => by
    unfold plF sumT
    rw [plF_sum r, tkF]
    split
    · unfold V.sub V.add; simp only [V.mk.injEq]; omega
    · rfl
theorem sumT_append : ∀ (L M : List Opr) (u : Int), sumT (L ++ M) u = (sumT L u).add (sumT M u)
  | [], M, u => by simp [sumT, V.add, V.nil]
  | o :: r, M, u => by
    rw [List.cons_append, sumT_cons, sumT_cons, sumT_append r M u]
    split
    · unfold V.add; simp only [V.mk.injEq]; omega
    · rfl
theorem sumT_rev : ∀ (L : List Opr) (u : Int), sumT L.reverse u = sumT L u
  | [], u => rfl
  | o :: r, u => by
    rw [List.reverse_cons, sumT_append, sumT_rev r, sumT_cons, sumT_cons]
    have e : sumT [] u = V.nil := rfl
    rw [e]
    split
    · unfold V.add V.nil; simp only [V.mk.injEq]; omega
    · unfold V.add V.nil; simp
theorem AllT.ok : ∀ {L : List Opr} {f : Int → V}, AllT f L → ∀ o ∈ L, o.v.ok = true ∧ spn o.a o.b = true
  | [], f, h, o, ho => by cases ho
  | x :: r, f, h, o, ho => by
    obtain ⟨h1, h2, h3, h4⟩ := h
    rcases List.mem_cons.1 ho with rfl | ho
    · exact ⟨h1, h2⟩
    · exact h4.ok o ho
theorem sumT_nonneg {L : List Opr} (h : ∀ o ∈ L, o.v.ok = true) (u : Int) : V.nil.le (sumT L u) := by
  induction L with
  | nil => exact V.le_refl _
  | cons o r ih =>
    have h1 := ih fun o ho => h o (List.mem_cons_of_mem _ ho)
    have h2 := V.ok_iff.1 (h o (by simp))
    rw [sumT_cons]
    split
    · unfold V.le V.add V.nil at *; simp only at *; omega
    · exact h1
/-- what is free behind all of them is nowhere below 0 -/
theorem AllT.pos : ∀ {L : List Opr} {f : Int → V}, AllT f L → (∀ u, V.nil.le (f u)) → ∀ u, V.nil.le (plF f L u)
  | [], f, _, hf, u => hf u
  | o :: r, f, h, hf, u => by
    obtain ⟨h1, h2, h3, h4⟩ := h
    unfold plF
    refine h4.pos (fun x => ?_) u
    unfold tkF
    split
    · rename_i q
      have := h3 x q.1 q.2
      unfold V.le V.sub V.nil at *
      simp only at *
      omega
    · exact hf x
/-- a part of the takes, behind which nothing is below 0 with the rest: all fit -/
theorem AllT.of_pos : ∀ {L : List Opr} {f : Int → V}, (∀ o ∈ L, o.v.ok = true ∧ spn o.a o.b = true) → (∀ u, V.nil.le (plF f L u)) → AllT f L
  | [], f, _, _ => trivial
  | o :: r, f, h, hp => by
    have h1 := h o (by simp)
    refine ⟨h1.1, h1.2, fun u hu1 hu2 => ?_, AllT.of_pos (fun x hx => h x (List.mem_cons_of_mem _ hx)) hp⟩
    have := hp u
    rw [plF_sum] at this
    have hs := sumT_nonneg (fun x hx => (h x (List.mem_cons_of_mem _ hx)).1) u (L := r)
    rw [sumT_cons, if_pos ⟨hu1, hu2⟩] at this
    unfold V.le V.sub V.add V.nil at *
    simp only at *
    omega
theorem AllT.rev {L : List Opr} {f : Int → V} (h : AllT f L) (hf : ∀ u, V.nil.le (f u)) : AllT f L.reverse := by
  refine AllT.of_pos (fun o ho => h.ok o (List.mem_reverse.1 ho)) fun u => ?_
  rw [plF_sum, sumT_rev, ← plF_sum]
  exact h.pos hf u
theorem plF_rev (L : List Opr) (f : Int → V) (u : Int) : plF f L.reverse u = plF f L u := by rw [plF_sum, sumT_rev, ← plF_sum]
theorem plF_snoc : ∀ (L : List Opr) (o : Opr) (f : Int → V), plF f (L ++ [o]) = tkF (plF f L) o.a o.b o.v
  | [], _, _ => rfl
  | _ :: r, o, _ => plF_snoc r o _
theorem AllT.append : ∀ {L M : List Opr} {f : Int → V}, AllT f (L ++ M) ↔ AllT f L ∧ AllT (plF f L) M
  | [], M, f => by simp [AllT, plF]
  | o :: r, M, f => by
    show (_ ∧ _ ∧ _ ∧ AllT _ (r ++ M)) ↔ (_ ∧ _ ∧ _ ∧ AllT _ r) ∧ AllT (plF (tkF f o.a o.b o.v) r) M
    rw [AllT.append]
    constructor
    · rintro ⟨h1, h2, h3, h4, h5⟩; exact ⟨⟨h1, h2, h3, h4⟩, h5⟩
    · rintro ⟨⟨h1, h2, h3, h4⟩, h5⟩; exact ⟨h1, h2, h3, h4, h5⟩
theorem AllT.snoc {L : List Opr} {o : Opr} {f : Int → V} : AllT f (L ++ [o]) ↔ AllT f L ∧ o.v.ok = true ∧ spn o.a o.b = true ∧ Fits (plF f L) o.a o.b o.v := by
  rw [AllT.append]
  show _ ∧ (_ ∧ _ ∧ _ ∧ True) ↔ _
  simp only [and_true]
end Go.Proofs.Ytkfpbpkadkhhnaa
