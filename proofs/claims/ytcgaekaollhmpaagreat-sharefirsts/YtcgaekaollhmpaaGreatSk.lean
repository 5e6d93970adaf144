/-
  Where a tenant stands in the order; who takes more, who has a greater weight.
-/
import Derived.Test.YtcgaekaollhmpaaGreatSj
namespace Go.Proofs.YtcgaekaollhmpaaGreat
open Go.RowKit Go.Maps

instance (a b : Tn) : Decidable (tb a b) := by unfold tb; infer_instance
theorem tb_irr (a : Tn) : ¬ tb a a := fun h => tb_asym h h
theorem idx_count {t : Tn} : ∀ {R : List Tn} {i : Nat}, R.Pairwise tb → R[i]? = some t → (R.filter fun x => decide (tb x t)).length = i
  | [], i, _, h => by simp at h
  | a :: r, 0, hp, h => by
    have e : a = t := by simpa using h
    subst e
    have h1 := List.pairwise_cons.1 hp
    rw [List.filter_cons_of_neg (by simpa using tb_irr a)]
    rw [List.filter_eq_nil_iff.2 fun x hx => by simpa using fun q => tb_asym q (h1.1 x hx)]
    rfl
  | a :: r, i + 1, hp, h => by
    have h1 := List.pairwise_cons.1 hp
    have h2 : r[i]? = some t := by simpa using h
    rw [List.filter_cons_of_pos (by simpa using h1.1 t (List.mem_of_getElem? h2)), List.length_cons, idx_count h1.2 h2]
def kT (t : Tn) : K := ⟨t.n, t.d, 0⟩
theorem tb_mono {x a b : Tn} (hx : x.d ≠ 0) (ha : a.d ≠ 0) (hb : b.d ≠ 0) (hn : a.nm = b.nm) (hle : ¬ rl (kT b) (kT a)) (h : tb x a) : tb x b := by
  have h2 : rl (kT a) (kT b) ∨ re (kT a) (kT b) := by
    rcases rl_tri (kT a) (kT b) with q | q | q
    · exact .inl q
    · exact .inr q
    · exact absurd q hle
  rcases h with h | ⟨h, hb2⟩
  · have h' : rl (kT x) (kT a) := h
    rcases h2 with q | q
    · exact .inl (rl.trans (b := kT a) ha hb hx h' q)
    · exact .inl (rl.re (b := kT a) ha hx hb h' q)
  · have h' : re (kT x) (kT a) := h
    rcases h2 with q | q
    · exact .inl (re.rl (b := kT a) ha hx hb h' q)
    · exact .inr ⟨re.trans (b := kT a) ha h' q, by rw [← hn]; exact hb2⟩
/-- the place of a tenant, and of the same one with another share -/
theorem place_le {X R R' : List Tn} {a b : Tn} {i j : Nat} (h : R.Perm (a :: X)) (h' : R'.Perm (b :: X)) (hp : R.Pairwise tb) (hp' : R'.Pairwise tb) (hi : R[i]? = some a) (hj : R'[j]? = some b) (hX : ∀ x ∈ X, x.d ≠ 0) (ha : a.d ≠ 0) (hb : b.d ≠ 0) (hn : a.nm = b.nm) (hle : ¬ rl (kT b) (kT a)) : i ≤ j := by
  have e1 := idx_count hp hi
  have e2 := idx_count hp' hj
  rw [(h.filter _).length_eq, List.filter_cons_of_neg (by simpa using tb_irr a)] at e1
  rw [(h'.filter _).length_eq, List.filter_cons_of_neg (by simpa using tb_irr b)] at e2
  rw [← e1, ← e2, ← List.countP_eq_length_filter, ← List.countP_eq_length_filter]
  refine List.countP_mono_left fun x hx q => ?_
  have q' : tb x a := by simpa using q
  simpa using tb_mono (hX x hx) ha hb hn hle q'
/-- two shares -/
theorem share_le {n d n' d' : Nat} (hd : 0 < d) (hd' : 0 < d') (h : n * d' ≤ n' * d) (nm nm' : List UInt8) : ¬ rl (kT ⟨nm', (Vs.Q.newR n' d').1, (Vs.Q.newR n' d').2.1⟩) (kT ⟨nm, (Vs.Q.newR n d).1, (Vs.Q.newR n d).2.1⟩) := by
  unfold Vs.Q.newR rl kT
  rw [if_neg (by omega), if_neg (by omega)]
  simp only []
  rw [Vs.lt_low hd hd']
  omega
theorem sh_ok {all : Vs.V} {u : U} (h : er all u = 0) : u.v.ok = true ∧ all.ok = true ∧ 1 ≤ u.wt ∧ u.wt ≤ 1000 ∧ sh all u = Vs.Q.newR (Vs.fS u.v all 4).1 ((Vs.fS u.v all 4).2 * u.wt.toNat) := by
  unfold er sh at *
  unfold Vs.shareR at *
  split at h
  · rename_i hf
    split at h
    · simp at h
    · rename_i hw
      have hv : u.v.ok = true ∧ all.ok = true := by simpa using hf
      rw [if_pos hf, if_neg hw]
      exact ⟨hv.1, hv.2, by omega, by omega, rfl⟩
  · simp at h
theorem sh_is {all : Vs.V} {u : U} (h1 : u.v.ok = true) (h2 : all.ok = true) (h3 : 1 ≤ u.wt) (h4 : u.wt ≤ 1000) : sh all u = Vs.Q.newR (Vs.fS u.v all 4).1 ((Vs.fS u.v all 4).2 * u.wt.toNat) ∧ er all u = 0 := by
  have e : sh all u = Vs.Q.newR (Vs.fS u.v all 4).1 ((Vs.fS u.v all 4).2 * u.wt.toNat) := by
    unfold sh Vs.shareR
    rw [if_pos (by rw [h1, h2]; rfl), if_neg (by omega)]
  refine ⟨e, ?_⟩
  unfold er
  rw [e]
  unfold Vs.Q.newR
  have := (Vs.fS_bound h1 h2 4).2.1
  have : 0 < (Vs.fS u.v all 4).2 * u.wt.toNat := Nat.mul_pos this (by omega)
  rw [if_neg (by omega)]
/-- who takes more -/
theorem more_le {all : Vs.V} {u : U} {m s : Vs.V} (h : er all u = 0) (ha : Vs.addR u.v m = (s, 0)) : er all ⟨u.nm, u.wt, s⟩ = 0 ∧ ¬ rl (kT (ten all ⟨u.nm, u.wt, s⟩)) (kT (ten all u)) := by
  obtain ⟨h1, h2, h3, h4, h5⟩ := sh_ok h
  unfold Vs.addR at ha
  split at ha
  · rename_i hv
    split at ha
    · rename_i hs
      have es : u.v.add m = s := (Prod.mk.inj ha).1
      rw [es] at hs
      obtain ⟨k1, k2⟩ := sh_is (all := all) (u := ⟨u.nm, u.wt, s⟩) hs h2 h3 h4
      refine ⟨k2, ?_⟩
      have hm : m.ok = true := by have : u.v.ok = true ∧ m.ok = true := by simpa using hv
                                  exact this.2
      have hg : ∀ i, (u.v.at i).toNat ≤ (s.at i).toNat := fun i => by
        have q1 := (Vs.at_ok hm i).1
        have q2 : s.at i = u.v.at i + m.at i := by
          rw [← es]
          match i with
          | 0 => rfl
          | 1 => rfl
          | 2 => rfl
          | n + 3 => rfl
        rw [q2]
        omega
      have hgr := Vs.fS_grows (all := all) h2 hg
      have b1 := (Vs.fS_bound h1 h2 4).2.1
      have b2 := (Vs.fS_bound hs h2 4).2.1
      unfold ten
      rw [h5, k1]
      refine share_le (Nat.mul_pos b1 (by omega)) (Nat.mul_pos b2 (by show 0 < u.wt.toNat; omega)) ?_ _ _
      show (Vs.fS u.v all 4).1 * ((Vs.fS s all 4).2 * u.wt.toNat) ≤ (Vs.fS s all 4).1 * ((Vs.fS u.v all 4).2 * u.wt.toNat)
      rw [← Nat.mul_assoc, ← Nat.mul_assoc]
      exact Nat.mul_le_mul_right _ hgr
    · simp at ha
  · simp at ha
/-- who has a greater weight -/
theorem weight_le {all : Vs.V} {u : U} (h : er all u = 0) : er all ⟨u.nm, min (u.wt + 1) 1000, u.v⟩ = 0 ∧ ¬ rl (kT (ten all u)) (kT (ten all ⟨u.nm, min (u.wt + 1) 1000, u.v⟩)) := by
  obtain ⟨h1, h2, h3, h4, h5⟩ := sh_ok h
  obtain ⟨k1, k2⟩ := sh_is (all := all) (u := ⟨u.nm, min (u.wt + 1) 1000, u.v⟩) h1 h2 (by show 1 ≤ min (u.wt + 1) 1000; omega) (by show min (u.wt + 1) 1000 ≤ 1000; omega)
  refine ⟨k2, ?_⟩
  have b1 := (Vs.fS_bound h1 h2 4).2.1
  unfold ten
  rw [h5, k1]
  refine share_le (Nat.mul_pos b1 (by show 0 < (min (u.wt + 1) 1000).toNat; omega)) (Nat.mul_pos b1 (by omega)) ?_ _ _
  show (Vs.fS u.v all 4).1 * ((Vs.fS u.v all 4).2 * u.wt.toNat) ≤ (Vs.fS u.v all 4).1 * ((Vs.fS u.v all 4).2 * (min (u.wt + 1) 1000).toNat)
  exact Nat.mul_le_mul_left _ (Nat.mul_le_mul_left _ (by omega))
end Go.Proofs.YtcgaekaollhmpaaGreat
