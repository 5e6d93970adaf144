/-
  What runs give back: it does not hang on their order.
-/
import Derived.Test.YtjgibngnjlciaaaGreatEa
import Derived.Test.YtjgibngnjlciaaaGreatMt
namespace Go.Proofs.YtjgibngnjlciaaaGreat

theorem tot_perm (nm : List UInt8) {l m : List (V × List UInt8)} (h : l.Perm m) : tot l nm = tot m nm := by
  induction h with
  | nil => rfl
  | cons x _ ih => unfold tot; rw [ih]
  | swap x y l =>
    unfold tot
    by_cases h1 : x.2 = nm <;> by_cases h2 : y.2 = nm <;> simp only [tot, h1, h2, if_true, if_false]
    rw [add_left_comm]
  | trans _ _ h1 h2 => exact h1.trans h2
/-- what all steps leave is within the limit -/
theorem mov_only : ∀ (l : List (V × List UInt8)) (S S' : List Sl), movG addR l S = some S' → (∀ x ∈ l, x.1.ok = true) → allS S = true → Nod S → ∀ s ∈ S, (s.v.add (tot l s.nm)).ok = true
  | [], S, S', _, _, h2, _ => fun s hs => by
    show (s.v.add V.nil).ok = true
    rw [add_nil]
    exact List.all_eq_true.1 h2 s hs
  | x :: r, S, S', h0, h1, h2, h3 => fun s hs => by
    have h0' : (stepM addR x S).bind (movG addR r) = some S' := h0
    obtain ⟨S1, e1, e2⟩ := Option.bind_eq_some_iff.1 h0'
    cases hk : plc x.2 S with
    | none => unfold stepM at e1; rw [hk] at e1; cases e1
    | some k =>
      obtain ⟨u, hu, hn⟩ := plc_some hk
      have hxo := h1 x (List.mem_cons_self ..)
      have huo : u.v.ok = true := List.all_eq_true.1 h2 u (List.mem_of_getElem? hu)
      have hst := stepM_some (f := addR) (v := x.1) (nm := x.2) hk hu
      have hst' : stepM addR x S = if (addR u.v x.1).2 = 0 then some (S.set k ⟨u.nm, (addR u.v x.1).1⟩) else none := hst
      rw [hst'] at e1
      have hadd : addR u.v x.1 = if (u.v.add x.1).ok then (u.v.add x.1, 0) else (V.nil, 7) := by unfold addR; rw [huo, hxo]; rfl
      by_cases ho : (u.v.add x.1).ok = true
      · rw [hadd, if_pos ho, if_pos rfl] at e1
        have eS : S.set k ⟨u.nm, u.v.add x.1⟩ = S1 := Option.some.inj e1
        have hnm : (S.set k ⟨u.nm, u.v.add x.1⟩).map Sl.nm = S.map Sl.nm := set_nm hu _
        have hkl := (List.getElem?_eq_some_iff.1 hu).1
        have ih := mov_only r S1 S' e2 (fun y hy => h1 y (List.mem_cons_of_mem _ hy)) (by
          rw [← eS]
          refine List.all_eq_true.2 fun y hy => ?_
          rcases List.mem_or_eq_of_mem_set hy with q | q
          · exact List.all_eq_true.1 h2 y q
          · rw [q]; exact ho) (by rw [← eS]; exact nod_nm hnm h3)
        obtain ⟨i, hi⟩ := List.mem_iff_getElem?.1 hs
        by_cases q : k = i
        · subst q
          have e : u = s := Option.some.inj (hu.symm.trans hi)
          subst e
          have := ih ⟨u.nm, u.v.add x.1⟩ (by rw [← eS]; exact List.mem_of_getElem? (by rw [List.getElem?_set, if_pos rfl, if_pos hkl]))
          show (u.v.add (if x.2 = u.nm then x.1.add (tot r u.nm) else tot r u.nm)).ok = true
          rw [if_pos hn.symm, ← add_add]
          exact this
        · have := ih s (by rw [← eS]; exact List.mem_of_getElem? (by rw [List.getElem?_set, if_neg q]; exact hi))
          show (s.v.add (if x.2 = s.nm then x.1.add (tot r s.nm) else tot r s.nm)).ok = true
          rw [if_neg (by rw [← hn]; exact nod_ne h3 hu hi q)]
          exact this
      · rw [hadd, if_neg ho] at e1
        simp at e1
/-! ### runs that give back -/
def gvG : List Vi → List Sl → Nat × List Sl
  | [], S => (0, S)
  | v :: r, S => if (movR addR v.T v.N S).1 = 0 then gvG r (movR addR v.T v.N S).2 else ((movR addR v.T v.N S).1, [])
/-- one that is right, for these slots -/
def gd (v : Vi) (S : List Sl) : Prop := chk v.T S = 0 ∧ v.N.length = v.T.length ∧ knB v.N S = true
def totL (L : List Vi) (nm : List UInt8) : V := tot (L.flatMap fun v => v.T.zip v.N) nm
/-- the slots behind their giving back -/
def slA (L : List Vi) (S : List Sl) : List Sl := S.map fun s => ⟨s.nm, s.v.add (totL L s.nm)⟩
theorem slA_nm (L : List Vi) (S : List Sl) : (slA L S).map Sl.nm = S.map Sl.nm := by unfold slA; rw [List.map_map]; rfl
theorem slA_nil (S : List Sl) : slA [] S = S := by
  unfold slA
  refine List.ext_getElem? fun i => ?_
  rw [List.getElem?_map]
  cases S[i]? with
  | none => rfl
  | some s => show some (⟨s.nm, s.v.add V.nil⟩ : Sl) = some s; rw [add_nil]
theorem slA_length (L : List Vi) (S : List Sl) : (slA L S).length = S.length := by unfold slA; rw [List.length_map]
theorem totL_append (L M : List Vi) (nm : List UInt8) : totL (L ++ M) nm = (totL L nm).add (totL M nm) := by
  unfold totL
  rw [List.flatMap_append, tot_append]
theorem slA_append (L M : List Vi) (S : List Sl) : slA M (slA L S) = slA (L ++ M) S := by
  unfold slA
  rw [List.map_map]
  refine List.map_congr_left fun s _ => ?_
  show (⟨s.nm, (s.v.add (totL L s.nm)).add (totL M s.nm)⟩ : Sl) = ⟨s.nm, s.v.add (totL (L ++ M) s.nm)⟩
  rw [totL_append, add_add]
theorem totL_perm (nm : List UInt8) {L M : List Vi} (h : L.Perm M) : totL L nm = totL M nm := tot_perm nm (h.flatMap_right _)
theorem slA_perm {L M : List Vi} (h : L.Perm M) (S : List Sl) : slA L S = slA M S := by
  unfold slA
  refine List.map_congr_left fun s _ => ?_
  rw [totL_perm s.nm h]
theorem gd_ok {v : Vi} {S : List Sl} (h : gd v S) : allOk v.T = true := (chk_ok h.1).1
theorem chk_nm {T : List V} {S S' : List Sl} (e : S'.map Sl.nm = S.map Sl.nm) (h : allS S' = true) (k : chk T S = 0) : chk T S' = 0 := by
  obtain ⟨k1, k2, k3, k4, k5⟩ := chk_ok k
  unfold chk
  rw [k1, h, if_neg (by decide), if_neg (fun q => q (nod_nm e k3)), if_neg (by omega)]
theorem knB_nm {N : List (List UInt8)} {S S' : List Sl} (e : S'.map Sl.nm = S.map Sl.nm) : knB N S' = knB N S := by
  unfold knB
  congr 1
  funext n
  rw [plc_nm e]
theorem gd_nm {v : Vi} {S S' : List Sl} (e : S'.map Sl.nm = S.map Sl.nm) (h : allS S' = true) (k : gd v S) : gd v S' := ⟨chk_nm e h k.1, k.2.1, by rw [knB_nm e]; exact k.2.2⟩
theorem totL_nn {L : List Vi} {S : List Sl} (h : ∀ v ∈ L, gd v S) (nm : List UInt8) : (totL L nm).nn := by
  refine tot_nn nm fun x hx => ?_
  obtain ⟨v, hv, hx⟩ := List.mem_flatMap.1 hx
  exact zip_ok (gd_ok (h v hv)) x hx
theorem give_one {v : Vi} {S : List Sl} (h : gd v S) (hs : ∀ s ∈ S, (s.v.add (totL [v] s.nm)).ok = true) : movR addR v.T v.N S = (0, slA [v] S) := by
  obtain ⟨k1, k2, k3, k4, k5⟩ := chk_ok h.1
  have e : ∀ nm, totL [v] nm = tot (v.T.zip v.N) nm := fun nm => by unfold totL; rw [List.flatMap_cons, List.flatMap_nil, List.append_nil]
  have hg := mov_all addR V.add (fun v u hv hu hvu => by unfold addR; rw [hv, hu, hvu]; rfl) add_add add_nil (fun s v t => add_mid) (v.T.zip v.N) S (zip_ok k1) k2 k3 (zip_kn h.2.2) (fun s hm => by rw [← e]; exact hs s hm)
  rw [(movR_go h.1 h.2.1 h.2.2).1 _ hg]
  congr 1
  unfold slA
  refine List.map_congr_left fun s _ => ?_
  rw [e]
theorem one_give {v : Vi} {S : List Sl} (h : (movR addR v.T v.N S).1 = 0) : gd v S ∧ ∀ s ∈ S, (s.v.add (totL [v] s.nm)).ok = true := by
  have hg : gd v S := by
    unfold movR at h
    by_cases h1 : chk v.T S = 0
    · rw [if_pos h1] at h
      by_cases h2 : v.N.length = v.T.length
      · rw [if_pos h2] at h
        by_cases h3 : knB v.N S = true
        · exact ⟨h1, h2, h3⟩
        · rw [if_neg h3] at h; simp at h
      · rw [if_neg h2] at h; simp at h
    · rw [if_neg h1] at h; exact absurd h h1
  refine ⟨hg, ?_⟩
  obtain ⟨k1, k2, k3, k4, k5⟩ := chk_ok hg.1
  have e : ∀ nm, totL [v] nm = tot (v.T.zip v.N) nm := fun nm => by unfold totL; rw [List.flatMap_cons, List.flatMap_nil, List.append_nil]
  cases hm : movG addR (v.T.zip v.N) S with
  | none => rw [(movR_go hg.1 hg.2.1 hg.2.2).2 hm] at h; simp at h
  | some S' =>
    intro s hs
    rw [e]
    exact mov_only _ S S' hm (zip_ok k1) k2 k3 s hs
theorem slA_ok {L : List Vi} {S : List Sl} (h : ∀ s ∈ S, (s.v.add (totL L s.nm)).ok = true) : allS (slA L S) = true := List.all_eq_true.2 fun y hy => by
  obtain ⟨s, hs, rfl⟩ := List.mem_map.1 hy
  exact h s hs
/-- all can give back -/
def Gv (L : List Vi) (S : List Sl) : Prop := (∀ v ∈ L, gd v S) ∧ ∀ s ∈ S, (s.v.add (totL L s.nm)).ok = true
theorem Gv.sub {L M K : List Vi} {S : List Sl} (h : Gv L S) (hS : allS S = true) (p : (M ++ K).Perm L) : Gv M S := by
  have hm : ∀ v ∈ M ++ K, gd v S := fun v hv => h.1 v (p.mem_iff.1 hv)
  refine ⟨fun v hv => hm v (List.mem_append_left _ hv), fun s hs => ?_⟩
  have := h.2 s hs
  rw [← totL_perm s.nm p, totL_append] at this
  exact add_mid (List.all_eq_true.1 hS s hs) (totL_nn (fun v hv => hm v (List.mem_append_left _ hv)) s.nm) (totL_nn (fun v hv => hm v (List.mem_append_right _ hv)) s.nm) this
theorem Gv.tail {v : Vi} {r : List Vi} {S : List Sl} (h : Gv (v :: r) S) (hS : allS S = true) : (movR addR v.T v.N S) = (0, slA [v] S) ∧ allS (slA [v] S) = true ∧ Gv r (slA [v] S) := by
  have h1 : Gv [v] S := h.sub (K := r) hS (List.Perm.refl _)
  have ha := slA_ok h1.2
  refine ⟨give_one (h1.1 v (List.mem_singleton.2 rfl)) h1.2, ha, fun u hu => gd_nm (slA_nm _ _) ha (h.1 u (List.mem_cons_of_mem _ hu)), fun y hy => ?_⟩
  obtain ⟨s, hs, rfl⟩ := List.mem_map.1 hy
  have := h.2 s hs
  rw [show v :: r = [v] ++ r from rfl, totL_append, ← add_add] at this
  exact this
theorem give_all : ∀ (L : List Vi) (S : List Sl), allS S = true → Gv L S → gvG L S = (0, slA L S)
  | [], S, _, _ => by show (0, S) = _; rw [slA_nil]
  | v :: r, S, hS, h => by
    obtain ⟨h1, h2, h3⟩ := h.tail hS
    unfold gvG
    rw [h1, if_pos rfl]
    show gvG r (slA [v] S) = _
    rw [give_all r _ h2 h3, slA_append]
    rfl
theorem all_give : ∀ (L : List Vi) (S : List Sl), allS S = true → (gvG L S).1 = 0 → Gv L S
  | [], S, hS, _ => ⟨fun v hv => by simp at hv, fun s hs => by show (s.v.add V.nil).ok = true; rw [add_nil]; exact List.all_eq_true.1 hS s hs⟩
  | v :: r, S, hS, h => by
    unfold gvG at h
    by_cases h1 : (movR addR v.T v.N S).1 = 0
    · rw [if_pos h1] at h
      obtain ⟨hg, hs⟩ := one_give h1
      have e := give_one hg hs
      rw [e] at h
      have ha := slA_ok hs
      have ih := all_give r _ ha h
      refine ⟨fun u hu => ?_, fun s hsm => ?_⟩
      · rcases List.mem_cons.1 hu with rfl | hu
        · exact hg
        · exact gd_nm (slA_nm [v] S).symm hS (ih.1 u hu)
      · have := ih.2 ⟨s.nm, s.v.add (totL [v] s.nm)⟩ (List.mem_map.2 ⟨s, hsm, rfl⟩)
        rw [show v :: r = [v] ++ r from rfl, totL_append, ← add_add]
        exact this
    · rw [if_neg h1] at h
      exact absurd h h1

theorem fitR_two {T : List V} {S : List Sl} (h : chk T S = 0) : (fitR T S).1 = 0 ∨ (fitR T S).1 = 6 := by
  unfold fitR
  rw [if_pos h]
  cases fitG T (ordT T) (fit0 T S) with
  | none => exact .inr rfl
  | some st => exact .inl rfl
theorem fitR_no {T : List V} {S : List Sl} (h : (fitR T S).1 ≠ 0) : (fitR T S).2 = [] := by
  rcases fitR_len T S with ⟨q, _⟩ | ⟨_, q⟩
  · exact absurd q h
  · exact q
theorem fitR_chk {T : List V} {S : List Sl} (h : (fitR T S).1 = 0 ∨ (fitR T S).1 = 6) : chk T S = 0 := by
  by_cases q : chk T S = 0
  · exact q
  · exfalso
    unfold fitR at h
    rw [if_neg q] at h
    have h' : chk T S = 0 ∨ chk T S = 6 := h
    have : chk T S = 4 ∨ chk T S = 5 ∨ chk T S = 2 ∨ chk T S = 0 := by
      unfold chk
      repeat' split
      all_goals simp
    omega
end Go.Proofs.YtjgibngnjlciaaaGreat
