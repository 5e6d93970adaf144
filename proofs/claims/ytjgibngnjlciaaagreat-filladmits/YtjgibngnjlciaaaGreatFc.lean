/-
  Plain mathematics: what runs take of a node's profile, and what is free of it then.
-/
import Derived.Test.YtjgibngnjlciaaaGreatFb
import Derived.Test.YtjgibngnjlciaaaGreatPLf
namespace Go.Proofs.YtjgibngnjlciaaaGreat

/-- a task on that node, as a take -/
def tkO (now : Int) (r : Vi) (nm : List UInt8) (x : V × List UInt8) : Option Opr := if x.2 = nm then some ⟨now, en now r, x.1⟩ else none
def tks (now : Int) (r : Vi) (nm : List UInt8) : List Opr := (r.T.zip r.N).filterMap (tkO now r nm)
def oprs (now : Int) (R : List Vi) (nm : List UInt8) : List Opr := R.flatMap fun r => tks now r nm
theorem oprs_append (now : Int) (R M : List Vi) (nm : List UInt8) : oprs now (R ++ M) nm = oprs now R nm ++ oprs now M nm := by unfold oprs; rw [List.flatMap_append]
theorem sum_tk (now : Int) (r : Vi) (nm : List UInt8) (u : Int) : ∀ l : List (V × List UInt8), sumT (l.filterMap (tkO now r nm)) u = if now ≤ u ∧ u < en now r then tot l nm else V.nil
  | [] => by
    show V.nil = _
    split <;> rfl
  | x :: l => by
    have ih := sum_tk now r nm u l
    by_cases e : x.2 = nm
    · rw [List.filterMap_cons_some (b := ⟨now, en now r, x.1⟩) (by unfold tkO; rw [if_pos e]), sumT_cons, ih]
      show (if now ≤ u ∧ u < en now r then x.1.add (if now ≤ u ∧ u < en now r then tot l nm else V.nil) else (if now ≤ u ∧ u < en now r then tot l nm else V.nil)) = if now ≤ u ∧ u < en now r then (if x.2 = nm then x.1.add (tot l nm) else tot l nm) else V.nil
      rw [if_pos e]
      split <;> rfl
    · rw [List.filterMap_cons_none (by unfold tkO; rw [if_neg e]), ih]
      show _ = if now ≤ u ∧ u < en now r then (if x.2 = nm then x.1.add (tot l nm) else tot l nm) else V.nil
      rw [if_neg e]
theorem totL_cons (r : Vi) (R : List Vi) (nm : List UInt8) : totL (r :: R) nm = (tot (r.T.zip r.N) nm).add (totL R nm) := by
  unfold totL
  rw [List.flatMap_cons, tot_append]
theorem nil_add' (v : V) : V.nil.add v = v := nil_add v
theorem sum_opr (now : Int) (nm : List UInt8) (u : Int) (hu : now ≤ u) : ∀ R : List Vi, sumT (oprs now R nm) u = totL (R.filter fun r => !decide (en now r ≤ u)) nm
  | [] => rfl
  | r :: R => by
    have ih := sum_opr now nm u hu R
    show sumT (tks now r nm ++ oprs now R nm) u = _
    rw [sumT_append, ih]
    have := sum_tk now r nm u (r.T.zip r.N)
    unfold tks
    rw [this]
    by_cases e : en now r ≤ u
    · rw [if_neg (by omega), List.filter_cons_of_neg (by simp [e]), nil_add]
    · rw [if_pos (by omega), List.filter_cons_of_pos (by simp [e]), totL_cons]
theorem sum_low (now : Int) (nm : List UInt8) (u : Int) (hu : u < now) : ∀ R : List Vi, sumT (oprs now R nm) u = V.nil
  | [] => rfl
  | r :: R => by
    have ih := sum_low now nm u hu R
    show sumT (tks now r nm ++ oprs now R nm) u = _
    rw [sumT_append, ih]
    have := sum_tk now r nm u (r.T.zip r.N)
    unfold tks
    rw [this, if_neg (by omega), nil_add]
/-- a slot when all runs have ended -/
def capS (R : List Vi) (s : Sl) : V := s.v.add (totL R s.nm)
/-- what is free of it at a tick -/
def frT (now : Int) (R : List Vi) (s : Sl) (u : Int) : V := (capS R s).sub (sumT (oprs now R s.nm) u)
theorem frT_at {now : Int} {R : List Vi} {s : Sl} {u : Int} (hu : now ≤ u) : frT now R s u = s.v.add (totL (R.filter fun r => decide (en now r ≤ u)) s.nm) := by
  unfold frT capS
  rw [sum_opr now s.nm u hu R, totL_split R (fun r => decide (en now r ≤ u)) s.nm]
  exact V.ext4 (by unfold V.sub V.add; simp only; omega)
theorem frT_low {now : Int} {R : List Vi} {s : Sl} {u : Int} (hu : u < now) : frT now R s u = capS R s := by
  unfold frT
  rw [sum_low now s.nm u hu R, sub_nil]
theorem stA_fr {now : Int} {R : List Vi} {S : List Sl} {t : Int} (h : now ≤ t) : stA now R S t = S.map fun s => ⟨s.nm, frT now R s t⟩ := by
  unfold stA slA
  refine List.map_congr_left fun s _ => ?_
  rw [frT_at h]
theorem slA_cap (R : List Vi) (S : List Sl) : slA R S = S.map fun s => ⟨s.nm, capS R s⟩ := rfl
/-- all of the takes fit -/
theorem opr_all {now : Int} {R : List Vi} {S : List Sl} {s : Sl} (hw : wthn now R = true) (hS : allS S = true) (hg : Gv R S) (hs : s ∈ S) : AllT (fun _ => capS R s) (oprs now R s.nm) := by
  obtain ⟨w1, w2, w3, w4⟩ := wthn_true hw
  have hsv : s.v.ok = true := List.all_eq_true.1 hS s hs
  have hsn := ok_nn hsv
  refine AllT.of_pos (fun o ho => ?_) fun u => ?_
  · unfold oprs at ho
    obtain ⟨r, hr, ho⟩ := List.mem_flatMap.1 ho
    obtain ⟨x, hx, e⟩ := List.mem_filterMap.1 ho
    unfold tkO at e
    split at e
    · cases e
      have := zip_ok (gd_ok (hg.1 r hr)) x hx
      refine ⟨this, spn_iff.2 ⟨w1, en_gt now r, ?_⟩⟩
      have := w4 r hr
      show max r.p (now + 1) ≤ _
      omega
    · cases e
  · rw [plF_sum]
    show V.nil.le (frT now R s u)
    by_cases hu : now ≤ u
    · rw [frT_at hu]
      have := totL_nn (L := R.filter fun r => decide (en now r ≤ u)) (S := S) (fun v hv => hg.1 v (List.mem_filter.1 hv).1) s.nm
      unfold V.le V.nil V.add V.nn at *
      simp only at *
      omega
    · rw [frT_low (by omega)]
      have := totL_nn (L := R) (S := S) hg.1 s.nm
      unfold capS V.le V.nil V.add V.nn at *
      simp only at *
      omega
/-- a step stands at now, or where a run ends -/
theorem step_cand {now : Int} {R : List Vi} {s : Sl} {l : List Stp} (hp : Pf (capS R s) l) (hf : ∀ u, fa (capS R s) l u = frT now R s u) {st : Stp} (h : st ∈ l) : st.at' ∈ cand now R := by
  obtain ⟨k, hk⟩ := List.mem_iff_getElem?.1 h
  have h1 := fa_at (C := capS R s) hp.srt hk
  have hI : IsK l (st.at' - 1) k := ⟨Nat.le_of_lt (List.getElem?_eq_some_iff.1 hk).1, fun i x hx hi => by have := hp.srt.lt hi hx hk; omega, fun i x hx hi => by
    by_cases e : i = k
    · subst e; rw [hk] at hx; cases hx; omega
    · have := hp.srt.lt (show k < i by omega) hk hx; omega⟩
  have h2 := fa_k (C := capS R s) hI
  have hne := hp.nod k st hk (fun q => q)
  rw [← h1, ← h2, hf, hf] at hne
  rcases Int.lt_trichotomy st.at' now with q | q | q
  · rw [frT_low q, frT_low (by omega)] at hne
    exact absurd rfl hne
  · exact cand_mem.2 (.inl q)
  · by_cases he : ∃ r ∈ R, en now r = st.at'
    · exact cand_mem.2 (.inr he)
    · exfalso
      apply hne
      rw [frT_at (by omega), frT_at (by omega)]
      congr 2
      refine List.filter_congr fun r hr => ?_
      have : en now r ≠ st.at' := fun e => he ⟨r, hr, e⟩
      rw [Bool.eq_iff_iff, decide_eq_true_iff, decide_eq_true_iff]
      omega
/-- between steps nothing changes -/
theorem fa_still {C : V} {l : List Stp} (hs : Srt l) {t u : Int} (htu : t ≤ u) (h : ∀ st ∈ l, ¬ (t < st.at' ∧ st.at' ≤ u)) : fa C l t = fa C l u := by
  obtain ⟨k, hk⟩ := isK_ex hs t
  have hk2 : IsK l u k := ⟨hk.le, fun i s hi hik => by have := hk.lo i s hi hik; omega, fun i s hi hik => by
    have h1 := hk.hi i s hi hik
    have := h s (List.mem_of_getElem? hi)
    omega⟩
  rw [fa_k hk, fa_k hk2]
/-- the greatest of a list that is not above u -/
theorem last_le {L : List Int} {x u : Int} (hx : x ∈ L) (hxu : x ≤ u) : ∃ t ∈ L, t ≤ u ∧ ∀ y ∈ L, y ≤ u → y ≤ t := by
  have : ∃ t, (L.filter fun y => decide (y ≤ u)).max? = some t := by
    cases h : (L.filter fun y => decide (y ≤ u)).max? with
    | none =>
      rw [List.max?_eq_none_iff, List.filter_eq_nil_iff] at h
      have := h x hx
      simp at this
      omega
    | some t => exact ⟨t, rfl⟩
  obtain ⟨t, ht⟩ := this
  rw [List.max?_eq_some_iff] at ht
  obtain ⟨h1, h2⟩ := ht
  obtain ⟨h3, h4⟩ := List.mem_filter.1 h1
  exact ⟨t, h3, by simpa using h4, fun y hy hyu => h2 y (List.mem_filter.2 ⟨hy, by simpa using hyu⟩)⟩
/-- the ticks that steps tell, and now, say all -/
theorem tick_cover {now : Int} {R : List Vi} {S : List Sl} {Q : Nat → List Stp} {Ts : List Int} (hq : ∀ i s, S[i]? = some s → Pf (capS R s) (Q i) ∧ ∀ u, fa (capS R s) (Q i) u = frT now R s u)
    (hT : ∀ x, x ∈ Ts ↔ x = now ∨ ∃ i s, S[i]? = some s ∧ ∃ st ∈ Q i, st.at' = x) : (∀ t ∈ Ts, t ∈ cand now R) ∧ (∀ u ∈ cand now R, ∃ t ∈ Ts, t ≤ u ∧ stA now R S t = stA now R S u) ∧ ∀ t ∈ Ts, now ≤ t := by
  have h1 : ∀ t ∈ Ts, t ∈ cand now R := fun t ht => by
    rcases (hT t).1 ht with rfl | ⟨i, s, hi, st, hst, rfl⟩
    · exact cand_mem.2 (.inl rfl)
    · exact step_cand (hq i s hi).1 (hq i s hi).2 hst
  refine ⟨h1, fun u hu => ?_, fun t ht => cand_le (h1 t ht)⟩
  have hnu := cand_le hu
  obtain ⟨t, ht, htu, hmax⟩ := last_le ((hT now).2 (.inl rfl)) hnu
  have hnt := cand_le (h1 t ht)
  refine ⟨t, ht, htu, ?_⟩
  rw [stA_fr hnt, stA_fr hnu]
  refine List.map_congr_left fun s hs => ?_
  obtain ⟨i, hi⟩ := List.mem_iff_getElem?.1 hs
  obtain ⟨hp, hf⟩ := hq i s hi
  rw [← hf t, ← hf u]
  congr 1
  refine fa_still hp.srt htu fun st hst q => ?_
  have := hmax st.at' ((hT st.at').2 (.inr ⟨i, s, hi, st, hst, rfl⟩)) q.2
  omega
end Go.Proofs.YtjgibngnjlciaaaGreat
