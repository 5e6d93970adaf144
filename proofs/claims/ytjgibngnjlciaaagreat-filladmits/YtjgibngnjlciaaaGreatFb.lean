/-
  Plain mathematics: the slots at a tick; the start.
-/
import Derived.Test.YtjgibngnjlciaaaGreatEb
import Derived.Test.YtjgibngnjlciaaaGreatFa
namespace Go.Proofs.YtjgibngnjlciaaaGreat

/-- the tick at which a run is taken to end -/
def en (now : Int) (r : Vi) : Int := max r.p (now + 1)
theorem en_gt (now : Int) (r : Vi) : now < en now r := by unfold en; omega
/-- the slots at a tick -/
def stA (now : Int) (R : List Vi) (S : List Sl) (t : Int) : List Sl := slA (R.filter fun r => decide (en now r ≤ t)) S
theorem stA_now (now : Int) (R : List Vi) (S : List Sl) : stA now R S now = S := by
  unfold stA
  rw [List.filter_eq_nil_iff.2 fun r _ => by have := en_gt now r; simp; omega, slA_nil]
/-- the gang finds room at that tick -/
def fitT (now : Int) (T : List V) (R : List Vi) (S : List Sl) (t : Int) : Prop := (fitR T (stA now R S t)).1 = 0
instance (now : Int) (T : List V) (R : List Vi) (S : List Sl) (t : Int) : Decidable (fitT now T R S t) := by unfold fitT; infer_instance
/-- the ticks at which anything may be another than ahead of it -/
def cand (now : Int) (R : List Vi) : List Int := now :: R.map (en now)
def staN (now : Int) (T : List V) (R : List Vi) (S : List Sl) : Option Int := ((cand now R).filter fun t => decide (fitT now T R S t)).min?
theorem cand_mem {now : Int} {R : List Vi} {t : Int} : t ∈ cand now R ↔ t = now ∨ ∃ r ∈ R, en now r = t := by unfold cand; simp
theorem cand_le {now : Int} {R : List Vi} {t : Int} (h : t ∈ cand now R) : now ≤ t := by
  rcases cand_mem.1 h with rfl | ⟨r, _, rfl⟩
  · exact Int.le_refl _
  · exact Int.le_of_lt (en_gt now r)
theorem staN_some {now : Int} {T : List V} {R : List Vi} {S : List Sl} {t : Int} : staN now T R S = some t ↔ t ∈ cand now R ∧ fitT now T R S t ∧ ∀ u ∈ cand now R, fitT now T R S u → t ≤ u := by
  unfold staN
  rw [List.min?_eq_some_iff]
  simp only [List.mem_filter, decide_eq_true_eq]
  constructor
  · rintro ⟨⟨h1, h2⟩, h3⟩
    exact ⟨h1, h2, fun u hu hf => h3 u ⟨hu, hf⟩⟩
  · rintro ⟨h1, h2, h3⟩
    exact ⟨⟨h1, h2⟩, fun u ⟨hu, hf⟩ => h3 u hu hf⟩
theorem staN_none {now : Int} {T : List V} {R : List Vi} {S : List Sl} : staN now T R S = none ↔ ∀ u ∈ cand now R, ¬ fitT now T R S u := by
  unfold staN
  rw [List.min?_eq_none_iff, List.filter_eq_nil_iff]
  simp only [decide_eq_true_eq]
/-- what Start answers -/
def startR (now : Int) (T : List V) (R : List Vi) (S : List Sl) : Int × List (List UInt8) × Nat :=
  if wthn now R = false then (0, [], 2) else if ¬ ((fitR T S).1 = 0 ∨ (fitR T S).1 = 6) then (0, [], (fitR T S).1) else if ¬ (gvG R S).1 = 0 then (0, [], (gvG R S).1) else match staN now T R S with
  | none => (0, [], 6)
  | some t => (t, (fitR T (stA now R S t)).2, 0)
theorem startR_range {now : Int} {T : List V} {R : List Vi} {S : List Sl} (h : wthn now R = false) : startR now T R S = (0, [], 2) := by unfold startR; rw [if_pos h]
theorem startR_fit {now : Int} {T : List V} {R : List Vi} {S : List Sl} (h : wthn now R = true) (h2 : ¬ ((fitR T S).1 = 0 ∨ (fitR T S).1 = 6)) : startR now T R S = (0, [], (fitR T S).1) := by unfold startR; rw [if_neg (by rw [h]; decide), if_pos h2]
theorem startR_give {now : Int} {T : List V} {R : List Vi} {S : List Sl} (h : wthn now R = true) (h2 : (fitR T S).1 = 0 ∨ (fitR T S).1 = 6) (h3 : ¬ (gvG R S).1 = 0) : startR now T R S = (0, [], (gvG R S).1) := by unfold startR; rw [if_neg (by rw [h]; decide), if_neg (fun q => q h2), if_pos h3]
theorem startR_none {now : Int} {T : List V} {R : List Vi} {S : List Sl} (h : wthn now R = true) (h2 : (fitR T S).1 = 0 ∨ (fitR T S).1 = 6) (h3 : (gvG R S).1 = 0) (h4 : staN now T R S = none) : startR now T R S = (0, [], 6) := by unfold startR; rw [if_neg (by rw [h]; decide), if_neg (fun q => q h2), if_neg (fun q => q h3), h4]
theorem startR_some {now : Int} {T : List V} {R : List Vi} {S : List Sl} {t : Int} (h : wthn now R = true) (h2 : (fitR T S).1 = 0 ∨ (fitR T S).1 = 6) (h3 : (gvG R S).1 = 0) (h4 : staN now T R S = some t) : startR now T R S = (t, (fitR T (stA now R S t)).2, 0) := by unfold startR; rw [if_neg (by rw [h]; decide), if_neg (fun q => q h2), if_neg (fun q => q h3), h4]
theorem wthn_true {now : Int} {R : List Vi} (h : wthn now R = true) : 0 ≤ now ∧ now < 1099511627776 ∧ R.length ≤ 100 ∧ ∀ r ∈ R, 0 ≤ r.p ∧ r.p ≤ 1099511627776 := by
  unfold wthn at h
  obtain ⟨h1, h2, h3, h4⟩ := of_decide_eq_true h
  refine ⟨h1, h2, h3, fun r hr => ?_⟩
  have := List.any_eq_false.1 h4 r hr
  unfold evil at this
  have : ¬ (r.p < 0 ∨ 1099511627776 < r.p) := by simpa using this
  omega
/-- gangs that are told to be right have slots that are right -/
theorem fit_chk {T : List V} {S : List Sl} (h : (fitR T S).1 = 0 ∨ (fitR T S).1 = 6) : allOk T = true ∧ allS S = true ∧ Nod S ∧ T.length ≤ 6 := by
  obtain ⟨k1, k2, k3, k4, k5⟩ := chk_ok (fitR_chk h)
  exact ⟨k1, k2, k3, by omega⟩
/-- some ticks that say all: the first of them at which there is room is the start -/
theorem sta_of {now : Int} {T : List V} {R : List Vi} {S : List Sl} {Ts : List Int} (h1 : ∀ t ∈ Ts, t ∈ cand now R) (h2 : ∀ u ∈ cand now R, ∃ t ∈ Ts, t ≤ u ∧ stA now R S t = stA now R S u) :
    (∀ t, t ∈ Ts → fitT now T R S t → (∀ u ∈ Ts, fitT now T R S u → t ≤ u) → staN now T R S = some t) ∧ ((∀ u ∈ Ts, ¬ fitT now T R S u) → staN now T R S = none) := by
  constructor
  · intro t ht hf hm
    refine staN_some.2 ⟨h1 t ht, hf, fun u hu hfu => ?_⟩
    obtain ⟨x, hx, hxu, e⟩ := h2 u hu
    have : fitT now T R S x := by unfold fitT at *; rw [e]; exact hfu
    exact Int.le_trans (hm x hx this) hxu
  · intro hn
    refine staN_none.2 fun u hu hfu => ?_
    obtain ⟨x, hx, hxu, e⟩ := h2 u hu
    exact hn x hx (by unfold fitT at *; rw [e]; exact hfu)
theorem totL_split (R : List Vi) (p : Vi → Bool) (nm : List UInt8) : totL R nm = (totL (R.filter p) nm).add (totL (R.filter fun r => !p r) nm) := by
  rw [← totL_append]
  exact totL_perm nm (List.filter_append_perm p R).symm
end Go.Proofs.YtjgibngnjlciaaaGreat
