/-
  The laws' place; what is to be known of two orders for ShareMoves.
-/
import Derived.Test.YtcgaekaollhmpaaGreatSk
namespace Go.Proofs.YtcgaekaollhmpaaGreat
open Go.RowKit Go.Maps

/-- the place of a tenant's name -/
theorem name_at {all : Vs.V} {L : List U} {R : List Tn} {u : U} (h : OrdR all L 0 R) (hu : u ∈ L) : ∃ i : Nat, R[i]? = some (ten all u) ∧ (R.map Tn.nm)[i]? = some u.nm ∧ ∀ (j : Nat) s, j < i → (R.map Tn.nm)[j]? = some s → s ≠ u.nm := by
  obtain ⟨h1, h2, -, h4, h5⟩ : fstE all L = 0 ∧ Nd L ∧ (0 : Nat) = 0 ∧ R.Perm (L.map (ten all)) ∧ R.Pairwise tb := by
    rcases h with ⟨_, e, _⟩ | ⟨_, _, e, _⟩ | e
    · exact absurd rfl e
    · cases e
    · exact e
  have hm : ten all u ∈ R := h4.mem_iff.2 (List.mem_map.2 ⟨u, hu, rfl⟩)
  obtain ⟨i, hi, e⟩ := List.getElem_of_mem hm
  have hR : R[i]? = some (ten all u) := by rw [List.getElem?_eq_getElem hi, e]
  refine ⟨i, hR, by rw [List.getElem?_map, hR]; rfl, fun j s hj hs => ?_⟩
  rw [List.getElem?_map] at hs
  obtain ⟨t, ht, rfl⟩ := Option.map_eq_some_iff.1 hs
  have hn : R.Pairwise fun a b => a.nm ≠ b.nm := by
    have : (L.map (ten all)).Pairwise fun a b => a.nm ≠ b.nm := List.pairwise_map.2 h2
    exact (h4.pairwise_iff (R := fun a b : Tn => a.nm ≠ b.nm) (fun q => Ne.symm q)).2 this
  obtain ⟨l1, e1⟩ := List.getElem?_eq_some_iff.1 ht
  have := List.pairwise_iff_getElem.1 hn j i l1 hi hj
  rw [e1, e] at this
  exact this
/-- the order where the first tenant has changed -/
theorem moved {all : Vs.V} {u u' : U} {r : List U} {R : List Tn} {e' : Nat} {R' : List Tn} (h : OrdR all (u :: r) 0 R) (hn : u'.nm = u.nm) (he : er all u' = 0) (h' : OrdR all (u' :: r) e' R') : e' = 0 ∧ R'.length = R.length ∧ OrdR all (u' :: r) 0 R' ∧ ∀ i j : Nat, R[i]? = some (ten all u) → R'[j]? = some (ten all u') → (¬ rl (kT (ten all u')) (kT (ten all u)) → i ≤ j) ∧ (¬ rl (kT (ten all u)) (kT (ten all u')) → j ≤ i) := by
  obtain ⟨h1, h2, -, h4, h5⟩ : fstE all (u :: r) = 0 ∧ Nd (u :: r) ∧ (0 : Nat) = 0 ∧ R.Perm ((u :: r).map (ten all)) ∧ R.Pairwise tb := by
    rcases h with ⟨_, e, _⟩ | ⟨_, _, e, _⟩ | e
    · exact absurd rfl e
    · cases e
    · exact e
  have hz := fstE_zero.1 h1
  have hz' : ∀ x ∈ u' :: r, er all x = 0 := fun x hx => by
    rcases List.mem_cons.1 hx with rfl | hx
    · exact he
    · exact hz x (List.mem_cons_of_mem _ hx)
  have hd : Nd (u' :: r) := by
    have := List.pairwise_cons.1 h2
    exact List.pairwise_cons.2 ⟨fun x hx => by rw [hn]; exact this.1 x hx, this.2⟩
  obtain ⟨k1, k2, k3, k4, k5⟩ : fstE all (u' :: r) = 0 ∧ Nd (u' :: r) ∧ e' = 0 ∧ R'.Perm ((u' :: r).map (ten all)) ∧ R'.Pairwise tb := by
    rcases h' with ⟨q1, q2, _⟩ | ⟨_, q, _, _⟩ | q
    · rw [fstE_zero.2 hz'] at q1; exact absurd q1 q2
    · exact absurd hd q
    · exact q
  subst k3
  have hX : ∀ x ∈ r.map (ten all), x.d ≠ 0 := fun x hx => by
    obtain ⟨y, hy, rfl⟩ := List.mem_map.1 hx
    exact (ten_ok (hz y (List.mem_cons_of_mem _ hy))).z
  have ha := (ten_ok (hz u (List.mem_cons_self ..))).z
  have hb := (ten_ok he).z
  refine ⟨rfl, by rw [k4.length_eq, h4.length_eq]; simp, .inr (.inr ⟨k1, k2, rfl, k4, k5⟩), fun i j hi hj => ⟨fun q => ?_, fun q => ?_⟩⟩
  · exact place_le h4 k4 h5 k5 hi hj hX ha hb hn.symm q
  · exact place_le k4 h4 k5 h5 hj hi hX hb ha hn q
end Go.Proofs.YtcgaekaollhmpaaGreat
