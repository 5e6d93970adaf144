/-
  The reference's End.
-/
import Derived.Test.YtbaffgkopgbknaaZd
import Derived.Test.YtbaffgkopgbknaaLc
import Derived.Lib.QuietBelow
namespace Go.Proofs.Ytbaffgkopgbknaa
open Go.RowKit Go.Maps Go.Sort

/-- the first so many entries' end -/
def Rx (l : List RE) (s i : Nat) (b : Int) : Prop := (b = -1 ∧ ∀ (j : Nat) (e : RE), j < i → l[j]? = some e → e.on = false) ∨
  ∃ (j : Nat) (e : RE), b = (j : Int) ∧ j < i ∧ l[j]? = some e ∧ e.on = true ∧ ∀ (j' : Nat) (e' : RE), j' < i → l[j']? = some e' → e'.on = true → sg s (enc e.k j) ≤ sg s (enc e'.k j')
section
variable {l : List RE} {s i : Nat} {b : Int} {x y : RE}
theorem Rx.start : Rx l s 0 (-1) := .inl ⟨rfl, fun j e h => by omega⟩
theorem Rx.off (h : Rx l s i b) (hx : l[i]? = some x) (ho : x.on = false) : Rx l s (i + 1) b := by
  rcases h with ⟨h1, h2⟩ | ⟨j, e, h1, h2, h3, h4, h5⟩
  · refine .inl ⟨h1, fun j e hj he => ?_⟩
    by_cases q : j = i
    · subst q; rw [hx] at he; cases he; exact ho
    · exact h2 j e (by omega) he
  · refine .inr ⟨j, e, h1, by omega, h3, h4, fun j' e' hj he hon => ?_⟩
    by_cases q : j' = i
    · subst q; rw [hx] at he; cases he; rw [ho] at hon; cases hon
    · exact h5 j' e' (by omega) he hon
theorem Rx.first (h : Rx l s i (-1)) (hx : l[i]? = some x) (ho : x.on = true) : Rx l s (i + 1) i := by
  refine .inr ⟨i, x, rfl, by omega, hx, ho, fun j' e' hj he hon => ?_⟩
  by_cases q : j' = i
  · subst q; rw [hx] at he; cases he; exact Int.le_refl _
  · rcases h with ⟨_, h2⟩ | ⟨j, e, h1, _⟩
    · rw [h2 j' e' (by omega) he] at hon; cases hon
    · omega
theorem Rx.take {j : Nat} (h : Rx l s i j) (hx : l[i]? = some x) (ho : x.on = true) (hy : l[j]? = some y) (hlt : sg s (enc x.k i) ≤ sg s (enc y.k j)) : Rx l s (i + 1) i := by
  refine .inr ⟨i, x, rfl, by omega, hx, ho, fun j' e' hj he hon => ?_⟩
  by_cases q : j' = i
  · subst q; rw [hx] at he; cases he; exact Int.le_refl _
  · rcases h with ⟨h1, _⟩ | ⟨j2, e, h1, h2, h3, h4, h5⟩
    · omega
    · have e1 : j2 = j := by omega
      subst e1
      rw [hy] at h3
      cases h3
      exact Int.le_trans hlt (h5 j' e' (by omega) he hon)
theorem Rx.keep {j : Nat} (h : Rx l s i j) (hx : l[i]? = some x) (hy : l[j]? = some y) (hle : sg s (enc y.k j) ≤ sg s (enc x.k i)) : Rx l s (i + 1) j := by
  rcases h with ⟨h1, _⟩ | ⟨j2, e, h1, h2, h3, h4, h5⟩
  · omega
  · have e1 : j2 = j := by omega
    subst e1
    rw [hy] at h3
    cases h3
    refine .inr ⟨j2, y, rfl, by omega, hy, h4, fun j' e' hj he hon => ?_⟩
    by_cases q : j' = i
    · subst q; rw [hx] at he; cases he; exact hle
    · exact h5 j' e' (by omega) he hon
theorem rc_neg {k k' : K} (h : rc k k' < 0) : enc k 0 < enc k' 0 := by
  unfold rc at h
  split at h
  · assumption
  · split at h <;> omega
theorem rc_nn {k k' : K} (h : ¬ rc k k' < 0) : enc k' 0 ≤ enc k 0 := by
  unfold rc at h
  split at h
  · omega
  · omega
theorem enc_lt {k k' : K} {x y : Nat} (hx : x < 1048576) (hy : y < 1048576) (h : enc k 0 < enc k' 0) : enc k x < enc k' y := by unfold enc at *; omega
theorem enc_le {k k' : K} {x y : Nat} (hxy : x ≤ y) (h : enc k 0 ≤ enc k' 0) : enc k x ≤ enc k' y := by unfold enc at *; omega
/-- what the comparison says, on each side -/
theorem Rx.cmp {j : Nat} (h : Rx l s i j) (hs : s ≤ 1) (hx : l[i]? = some x) (ho : x.on = true) (hy : l[j]? = some y) (hi : i < 1048576) : (s = 0 → (rc x.k y.k < 0 → Rx l 0 (i + 1) i) ∧ (¬ rc x.k y.k < 0 → Rx l 0 (i + 1) j)) ∧ (s = 1 → (rc x.k y.k < 0 → Rx l 1 (i + 1) j) ∧ (¬ rc x.k y.k < 0 → Rx l 1 (i + 1) i)) := by
  have hji : j < i := by
    rcases h with ⟨h1, _⟩ | ⟨j2, e, h1, h2, _⟩
    · omega
    · omega
  refine ⟨fun e => ?_, fun e => ?_⟩
  · subst e
    refine ⟨fun q => h.take hx ho hy ?_, fun q => h.keep hx hy ?_⟩
    · exact Int.le_of_lt (enc_lt hi (by omega) (rc_neg q))
    · exact enc_le (by omega) (rc_nn q)
  · subst e
    unfold sg at *
    refine ⟨fun q => h.keep hx hy ?_, fun q => h.take hx ho hy ?_⟩
    · have := enc_lt hi (show j < 1048576 by omega) (rc_neg q)
      show -_ ≤ -_
      omega
    · have := enc_le (show j ≤ i by omega) (rc_nn q)
      show -_ ≤ -_
      omega
theorem Rx.done {l : List RE} {s : Nat} {b : Int} (h : Rx l s l.length b) : (b = -1 ∧ ∀ x, rcont l x = none) ∨ ∃ (j : Nat) (e : RE), b = (j : Int) ∧ l[j]? = some e ∧ e.on = true ∧ (rcont l).ext s j e.k := by
  have key : ∀ (y : Int) k', rcont l y = some k' → ∃ (j : Nat) (e : RE), y = (j : Int) ∧ j < l.length ∧ l[j]? = some e ∧ e.on = true ∧ e.k = k' := fun y k' q => by
    unfold rcont at q
    split at q
    · cases q
    · rename_i h0
      obtain ⟨i, rfl⟩ : ∃ i : Nat, y = i := ⟨y.toNat, by omega⟩
      rw [show ((i : Int)).toNat = i by omega] at q
      cases hi : l[i]? with
      | none => rw [hi] at q; cases q
      | some e =>
        rw [hi] at q
        cases ho : e.on with
        | false => simp [ho] at q
        | true =>
          simp [ho] at q
          exact ⟨i, e, rfl, (List.getElem?_eq_some_iff.1 hi).1, hi, ho, q⟩
  rcases h with ⟨h1, h2⟩ | ⟨j, e, h1, h2, h3, h4, h5⟩
  · refine .inl ⟨h1, fun x => ?_⟩
    cases q : rcont l x with
    | none => rfl
    | some k =>
      obtain ⟨j, e, _, k1, k2, k3, _⟩ := key x k q
      rw [h2 j e k1 k2] at k3
      cases k3
  · refine .inr ⟨j, e, h1, h3, h4, by rw [rcont_at h3, h4]; rfl, fun y k' q => ?_⟩
    obtain ⟨j', e', k0, k1, k2, k3, k4⟩ := key y k' q
    have : y = j' := by omega
    subst this
    rw [← k4]
    exact h5 y e' k1 k2 k3
end
def sOf (b : Bool) : Nat := if b then 1 else 0
end Go.Proofs.Ytbaffgkopgbknaa
