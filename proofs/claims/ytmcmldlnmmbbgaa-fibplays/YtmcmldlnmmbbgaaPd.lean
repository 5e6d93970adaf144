/-
  The heap as plain data: families, places; joining and leaving.
-/
import Derived.Test.YtmcmldlnmmbbgaaPc
import Derived.Test.YtmcmldlnmmbbgaaQd
namespace Go.Proofs.Ytmcmldlnmmbbgaa
open Go.RowKit Go.Maps

/-- a family: the roots with i children, the children of p -/
inductive Fa where
  | rt (i : Nat) | kd (p : Nat)
deriving DecidableEq
section
variable {α β : Type} [DecidableEq α]
def upd (f : α → β) (a : α) (v : β) : α → β := fun x => if x = a then v else f x
theorem upd_same (f : α → β) (a : α) (v : β) : upd f a v a = v := by simp [upd]
theorem upd_other (f : α → β) {a x : α} (v : β) (h : x ≠ a) : upd f a v x = f x := by simp [upd, h]
end
structure HS where
  gv : Nat
  mb : Option Nat
  lst : Option Nat
  X : List Nat
  fl : Fa → List Nat
  fv : Fa → Value
  hd : Nat → Nat
  ky : Nat → K
  par : Nat → Option Nat
  ix : Nat → Nat
  lost : Nat → Bool
  pl : Nat → Option Fa
def HS.val (S : HS) : Fa → Prop
  | .rt i => i < 29
  | .kd p => p ∈ S.X
def HS.ndC (S : HS) (b : Nat) : Nat → Value := fun i => if i = 0 then .int .i64 (S.hd b) else if i = 1 then .int .u64 (S.ky b).n else if i = 2 then .int .u64 (S.ky b).d else if i = 3 then .int .i64 (S.ky b).t else if i = 4 then optp (S.par b) else if i = 5 then S.fv (.kd b) else if i = 6 then .int .i64 (S.ix b) else .bool (S.lost b)
def HS.hpC (S : HS) : Nat → Value := fun i => if i = 0 then .int .i64 S.gv else if i = 1 then .map S.mb else if i = 31 then optp S.lst else S.fv (.rt (i - 2))

structure Lc (S : HS) : Prop where
  fam : ∀ F, S.val F → ∀ (j b : Nat), (S.fl F)[j]? = some b → b ∈ S.X ∧ S.pl b = some F ∧ S.ix b = j
  plc : ∀ b ∈ S.X, ∀ F, S.pl b = some F → S.val F ∧ (S.fl F)[S.ix b]? = some b
  slf : ∀ b ∈ S.X, S.pl b ≠ some (.kd b)

def HS.join (S : HS) (F : Fa) (b : Nat) (v : Value) : HS := { S with fl := upd S.fl F (S.fl F ++ [b]), fv := upd S.fv F v, ix := upd S.ix b (S.fl F).length, pl := upd S.pl b (some F) }
def HS.leave (S : HS) (F : Fa) (b x : Nat) (v : Value) : HS := { S with fl := upd S.fl F (((S.fl F).set (S.ix b) x).dropLast), fv := upd S.fv F v, ix := upd S.ix x (S.ix b), pl := upd S.pl b none }
theorem val_join (S : HS) (F : Fa) (b : Nat) (v : Value) (G : Fa) : (S.join F b v).val G = S.val G := by cases G <;> rfl
theorem val_leave (S : HS) (F : Fa) (b x : Nat) (v : Value) (G : Fa) : (S.leave F b x v).val G = S.val G := by cases G <;> rfl

theorem Lc.join {S : HS} (h : Lc S) {F : Fa} {b : Nat} (v : Value) (hF : S.val F) (hb : b ∈ S.X) (hp : S.pl b = none) (hne : F ≠ .kd b) : Lc (S.join F b v) := by
  refine ⟨fun G hG j c hc => ?_, fun c hc G hG => ?_, fun c hc e => ?_⟩
  · rw [val_join] at hG
    have old : (S.fl G)[j]? = some c → c ∈ S.X ∧ (S.join F b v).pl c = some G ∧ (S.join F b v).ix c = j := fun h0 => by
      obtain ⟨h1, h2, h3⟩ := h.fam G hG j c h0
      have hne : c ≠ b := by rintro rfl; rw [hp] at h2; cases h2
      exact ⟨h1, (upd_other _ _ hne).trans h2, (upd_other _ _ hne).trans h3⟩
    by_cases e : G = F
    · subst e
      have hc' : (S.fl G ++ [b])[j]? = some c := by rw [← hc]; exact congrArg (·[j]?) (upd_same S.fl G _).symm
      by_cases hj : j < (S.fl G).length
      · rw [List.getElem?_append_left hj] at hc'
        exact old hc'
      · rw [List.getElem?_append_right (by omega)] at hc'
        have hj0 : j - (S.fl G).length = 0 := by
          have := (List.getElem?_eq_some_iff.1 hc').1
          simp at this
          omega
        rw [hj0] at hc'
        have e : b = c := by simpa using hc'
        subst e
        exact ⟨hb, upd_same _ _ _, (upd_same _ _ _).trans (by omega)⟩
    · have hc' : (S.fl G)[j]? = some c := by rw [← hc]; exact congrArg (·[j]?) (upd_other S.fl _ e).symm
      exact old hc'
  · rw [val_join]
    by_cases e : c = b
    · subst e
      have hG' : some F = some G := (upd_same S.pl c (some F)).symm.trans hG
      obtain rfl := Option.some.inj hG'
      refine ⟨hF, ?_⟩
      show (upd S.fl F (S.fl F ++ [c]) F)[upd S.ix c (S.fl F).length c]? = _
      rw [upd_same, upd_same]
      simp
    · have hG' : S.pl c = some G := (upd_other S.pl _ e).symm.trans hG
      obtain ⟨h1, h2⟩ := h.plc c hc G hG'
      refine ⟨h1, ?_⟩
      show (upd S.fl F (S.fl F ++ [b]) G)[upd S.ix b (S.fl F).length c]? = _
      rw [upd_other _ _ e]
      by_cases e2 : G = F
      · subst e2
        rw [upd_same, List.getElem?_append_left (List.getElem?_eq_some_iff.1 h2).1]
        exact h2
      · rw [upd_other _ _ e2]
        exact h2
  · have e' : upd S.pl b (some F) c = some (.kd c) := e
    by_cases ec : c = b
    · subst ec; rw [upd_same] at e'; exact hne (Option.some.inj e')
    · rw [upd_other _ _ ec] at e'; exact h.slf c hc e'

theorem Lc.leave {S : HS} (h : Lc S) {F : Fa} {b x m : Nat} (v : Value) (hF : S.val F) (hb : b ∈ S.X) (hp : S.pl b = some F) (hm : (S.fl F).length = m + 1) (hx : (S.fl F)[m]? = some x) : Lc (S.leave F b x v) := by
  obtain ⟨x1, x2, x3⟩ := h.fam F hF m x hx
  have hi := (h.plc b hb F hp).2
  have hil : S.ix b < m + 1 := by rw [← hm]; exact (List.getElem?_eq_some_iff.1 hi).1
  have hbx : S.ix b = m → b = x := fun e => by rw [e, hx] at hi; exact (Option.some.inj hi).symm
  have dl : ∀ (j c : Nat), ((((S.fl F).set (S.ix b) x).dropLast)[j]? = some c) ↔ (j < m ∧ ((j = S.ix b ∧ c = x) ∨ (j ≠ S.ix b ∧ (S.fl F)[j]? = some c))) := by
    intro j c
    have hlen : ((S.fl F).set (S.ix b) x).dropLast.length = m := by rw [List.length_dropLast, List.length_set]; omega
    by_cases hj : j < m
    · rw [List.dropLast_eq_take, List.getElem?_take, if_pos (by rw [List.length_set]; omega), List.getElem?_set]
      by_cases e : S.ix b = j
      · rw [if_pos e, if_pos (by omega)]
        subst e
        simp only [hj, true_and, ne_eq, not_true_eq_false, false_and, or_false, Option.some.injEq]
        exact eq_comm
      · rw [if_neg e]
        simp [hj, Ne.symm e]
    · constructor
      · intro h
        have := (List.getElem?_eq_some_iff.1 h).1
        omega
      · rintro ⟨h, _⟩; omega
  refine ⟨fun G hG j c hc => ?_, fun c hc G hG => ?_, fun c hc e => ?_⟩
  · rw [val_leave] at hG
    by_cases e : G = F
    · subst e
      have hc' : (((S.fl G).set (S.ix b) x).dropLast)[j]? = some c := by rw [← hc]; exact congrArg (·[j]?) (upd_same S.fl G _).symm
      obtain ⟨hj, ⟨e1, rfl⟩ | ⟨e1, h1⟩⟩ := (dl j c).1 hc'
      · have hne : c ≠ b := by rintro rfl; omega
        exact ⟨x1, (upd_other _ _ hne).trans x2, (upd_same _ _ _).trans e1.symm⟩
      · obtain ⟨h2, h3, h4⟩ := h.fam G hF j c h1
        have hne : c ≠ b := by rintro rfl; exact e1 h4.symm
        have hnx : c ≠ x := by rintro rfl; omega
        exact ⟨h2, (upd_other _ _ hne).trans h3, (upd_other _ _ hnx).trans h4⟩
    · have hc' : (S.fl G)[j]? = some c := by rw [← hc]; exact congrArg (·[j]?) (upd_other S.fl _ e).symm
      obtain ⟨h2, h3, h4⟩ := h.fam G hG j c hc'
      have hne : c ≠ b := by rintro rfl; rw [hp] at h3; exact e (Option.some.inj h3).symm
      have hnx : c ≠ x := by rintro rfl; rw [x2] at h3; exact e (Option.some.inj h3).symm
      exact ⟨h2, (upd_other _ _ hne).trans h3, (upd_other _ _ hnx).trans h4⟩
  · rw [val_leave]
    have hne : c ≠ b := by
      rintro rfl
      have hG' : (none : Option Fa) = some G := (upd_same S.pl c none).symm.trans hG
      cases hG'
    have hG' : S.pl c = some G := (upd_other S.pl _ hne).symm.trans hG
    obtain ⟨h1, h2⟩ := h.plc c hc G hG'
    refine ⟨h1, ?_⟩
    show (upd S.fl F _ G)[upd S.ix x (S.ix b) c]? = _
    by_cases e2 : G = F
    · subst e2
      rw [upd_same, dl]
      by_cases e3 : c = x
      · subst e3
        rw [upd_same]
        refine ⟨?_, .inl ⟨rfl, rfl⟩⟩
        have : S.ix b ≠ m := fun e => hne (hbx e).symm
        omega
      · rw [upd_other _ _ e3]
        refine ⟨?_, .inr ⟨fun e => hne ?_, h2⟩⟩
        · have hlt := (List.getElem?_eq_some_iff.1 h2).1
          have : S.ix c ≠ m := fun e => e3 (by rw [e, hx] at h2; exact (Option.some.inj h2).symm)
          omega
        · rw [e, hi] at h2
          exact (Option.some.inj h2).symm
    · rw [upd_other _ _ e2]
      have e3 : c ≠ x := by rintro rfl; rw [x2] at hG'; exact e2 (Option.some.inj hG').symm
      rw [upd_other _ _ e3]
      exact h2
  · have e' : upd S.pl b none c = some (.kd c) := e
    by_cases ec : c = b
    · subst ec; rw [upd_same] at e'; cases e'
    · rw [upd_other _ _ ec] at e'; exact h.slf c hc e'
end Go.Proofs.Ytmcmldlnmmbbgaa
