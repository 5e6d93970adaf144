/-
  What tasks come to on a node; what follows of Fit, After and Before.
-/
import Derived.Test.YtjgibngnjlciaaaGreatLm
import Derived.Test.YtjgibngnjlciaaaGreatPMa
namespace Go.Proofs.YtjgibngnjlciaaaGreat

/-! ### vectors -/
def V.nn (v : V) : Prop := 0 ≤ v.a ∧ 0 ≤ v.b ∧ 0 ≤ v.c ∧ 0 ≤ v.d
theorem ok_mk {v : V} (h : (0 ≤ v.a ∧ v.a ≤ 1099511627776) ∧ (0 ≤ v.b ∧ v.b ≤ 1099511627776) ∧ (0 ≤ v.c ∧ v.c ≤ 1099511627776) ∧ (0 ≤ v.d ∧ v.d ≤ 1099511627776)) : v.ok = true := by
  unfold V.ok fm okI
  simpa using h
theorem ok_nn {v : V} (h : v.ok = true) : v.nn := by
  have := okV h
  unfold V.nn
  omega
theorem nn_add {u v : V} (h : u.nn) (k : v.nn) : (u.add v).nn := by
  unfold V.nn V.add at *
  simp only
  omega
theorem sub_sub (s v t : V) : (s.sub v).sub t = s.sub (v.add t) := V.ext4 (by unfold V.sub V.add; simp only; omega)
theorem add_add (s v t : V) : (s.add v).add t = s.add (v.add t) := V.ext4 (by unfold V.add; simp only; omega)
theorem add_left_comm (s v t : V) : s.add (v.add t) = v.add (s.add t) := V.ext4 (by unfold V.add; simp only; omega)
theorem sub_add (s t : V) : (s.sub t).add t = s := V.ext4 (by unfold V.sub V.add; simp only; omega)
theorem sub_nil (s : V) : s.sub V.nil = s := V.ext4 (by unfold V.sub V.nil; simp only; omega)
theorem add_nil (s : V) : s.add V.nil = s := V.ext4 (by unfold V.add V.nil; simp only; omega)
theorem sub_mid {s v t : V} (hs : s.ok = true) (hv : v.nn) (ht : t.nn) (h : (s.sub (v.add t)).ok = true) : (s.sub v).ok = true := by
  have h1 := okV hs
  have h2 := okV h
  refine ok_mk ?_
  unfold V.nn at hv ht
  unfold V.sub V.add at *
  simp only at *
  omega
theorem add_mid {s v t : V} (hs : s.ok = true) (hv : v.nn) (ht : t.nn) (h : (s.add (v.add t)).ok = true) : (s.add v).ok = true := by
  have h1 := okV hs
  have h2 := okV h
  refine ok_mk ?_
  unfold V.nn at hv ht
  unfold V.add at *
  simp only at *
  omega
/-! ### what tasks come to on a node -/
def tot : List (V × List UInt8) → List UInt8 → V
  | [], _ => V.nil
  | x :: l, nm => if x.2 = nm then x.1.add (tot l nm) else tot l nm
theorem tot_nn : ∀ {l : List (V × List UInt8)} (nm : List UInt8), (∀ x ∈ l, x.1.ok = true) → (tot l nm).nn
  | [], nm, _ => by unfold tot V.nn V.nil; simp
  | x :: l, nm, h => by
    unfold tot
    have ih := tot_nn (l := l) nm fun y hy => h y (List.mem_cons_of_mem _ hy)
    split
    · exact nn_add (ok_nn (h x (List.mem_cons_self ..))) ih
    · exact ih
theorem tot_append (nm : List UInt8) : ∀ l m : List (V × List UInt8), tot (l ++ m) nm = (tot l nm).add (tot m nm)
  | [], m => by
    show tot m nm = V.nil.add _
    rw [nil_add]
  | x :: l, m => by
    show (if x.2 = nm then x.1.add (tot (l ++ m) nm) else tot (l ++ m) nm) = (if x.2 = nm then x.1.add (tot l nm) else tot l nm).add _
    rw [tot_append nm l m]
    split
    · rw [add_add]
    · rfl
theorem nod_nm {S S' : List Sl} (e : S'.map Sl.nm = S.map Sl.nm) (h : Nod S) : Nod S' := by
  have h1 : (S.map Sl.nm).Pairwise (· ≠ ·) := List.pairwise_map.2 h
  rw [← e] at h1
  exact List.pairwise_map.1 h1
theorem nod_ne {S : List Sl} (h : Nod S) {i k : Nat} {a b : Sl} (ha : S[i]? = some a) (hb : S[k]? = some b) (hik : i ≠ k) : a.nm ≠ b.nm := by
  rcases Nat.lt_or_gt_of_ne hik with q | q
  · exact fun e => not_nod ha hb q e h
  · exact fun e => not_nod hb ha q e.symm h
/-- one step behind the other, on all slots -/
theorem mov_all (f : V → V → V × Nat) (g : V → V → V) (hf : ∀ v u, v.ok = true → u.ok = true → (g v u).ok = true → f v u = (g v u, 0)) (hg : ∀ s v t, g (g s v) t = g s (v.add t)) (hz : ∀ s, g s V.nil = s) (hm : ∀ s v t, s.ok = true → v.nn → t.nn → (g s (v.add t)).ok = true → (g s v).ok = true) :
    ∀ (l : List (V × List UInt8)) (S : List Sl), (∀ x ∈ l, x.1.ok = true) → allS S = true → Nod S → (∀ x ∈ l, (plc x.2 S).isSome = true) → (∀ s ∈ S, (g s.v (tot l s.nm)).ok = true) → movG f l S = some (S.map fun s => ⟨s.nm, g s.v (tot l s.nm)⟩)
  | [], S, _, _, _, _, _ => by
    show some S = _
    congr 1
    refine List.ext_getElem? fun i => ?_
    rw [List.getElem?_map]
    cases S[i]? with
    | none => rfl
    | some s => show some s = some ⟨s.nm, g s.v V.nil⟩; rw [hz]
  | x :: r, S, h1, h2, h3, h4, h5 => by
    obtain ⟨k, hk⟩ : ∃ k, plc x.2 S = some k := Option.isSome_iff_exists.1 (h4 x (List.mem_cons_self ..))
    obtain ⟨s, hs, hn⟩ := plc_some hk
    have hsm : s ∈ S := List.mem_of_getElem? hs
    have hso : s.v.ok = true := List.all_eq_true.1 h2 s hsm
    have hxo := h1 x (List.mem_cons_self ..)
    have hr : ∀ y ∈ r, y.1.ok = true := fun y hy => h1 y (List.mem_cons_of_mem _ hy)
    have ht : tot (x :: r) s.nm = x.1.add (tot r s.nm) := by show (if x.2 = s.nm then _ else _) = _; rw [if_pos hn.symm]
    have h6 := h5 s hsm
    rw [ht] at h6
    have hgo : (g s.v x.1).ok = true := hm s.v x.1 (tot r s.nm) hso (ok_nn hxo) (tot_nn _ hr) h6
    have hfx := hf s.v x.1 hso hxo hgo
    have hst : stepM f x S = some (S.set k ⟨s.nm, g s.v x.1⟩) := by
      have := stepM_some (f := f) (v := x.1) (nm := x.2) hk hs
      rw [hfx] at this
      exact this
    have hnm : (S.set k ⟨s.nm, g s.v x.1⟩).map Sl.nm = S.map Sl.nm := set_nm hs _
    have hoth : ∀ i y, i ≠ k → S[i]? = some y → tot (x :: r) y.nm = tot r y.nm := fun i y hi hy => by
      show (if x.2 = y.nm then _ else _) = _
      rw [if_neg (by rw [← hn]; exact (nod_ne h3 hy hs hi).symm)]
    have hkl := (List.getElem?_eq_some_iff.1 hs).1
    have ih := mov_all f g hf hg hz hm r (S.set k ⟨s.nm, g s.v x.1⟩) hr (List.all_eq_true.2 fun y hy => by
        rcases List.mem_or_eq_of_mem_set hy with q | q
        · exact List.all_eq_true.1 h2 y q
        · rw [q]; exact hgo) (nod_nm hnm h3) (fun y hy => by rw [plc_nm hnm]; exact h4 y (List.mem_cons_of_mem _ hy)) (fun y hy => by
        obtain ⟨i, hi⟩ := List.mem_iff_getElem?.1 hy
        rw [List.getElem?_set] at hi
        by_cases q : k = i
        · rw [if_pos q, if_pos hkl] at hi
          cases hi
          show (g (g s.v x.1) (tot r s.nm)).ok = true
          rw [hg]
          exact h6
        · rw [if_neg q] at hi
          have := h5 y (List.mem_of_getElem? hi)
          rwa [hoth i y (Ne.symm q) hi] at this)
    show (stepM f x S).bind (movG f r) = _
    rw [hst]
    show movG f r _ = _
    rw [ih]
    congr 1
    refine List.ext_getElem? fun i => ?_
    rw [List.getElem?_map, List.getElem?_map, List.getElem?_set]
    by_cases q : k = i
    · subst q
      rw [if_pos rfl, if_pos hkl, hs]
      show some (⟨s.nm, g (g s.v x.1) (tot r s.nm)⟩ : Sl) = some ⟨s.nm, g s.v (tot (x :: r) s.nm)⟩
      rw [hg, ht]
    · rw [if_neg q]
      cases hy : S[i]? with
      | none => rfl
      | some y =>
        show some (⟨y.nm, g y.v (tot r y.nm)⟩ : Sl) = some ⟨y.nm, g y.v (tot (x :: r) y.nm)⟩
        rw [hoth i y (Ne.symm q) hy]
/-! ### Fit -/
def totI (T : List V) (N : List (List UInt8)) (L : List Nat) (nm : List UInt8) : V := L.foldr (fun t acc => if N.getD t [] = nm then (tg T t).add acc else acc) V.nil
theorem totI_perm (T : List V) (N : List (List UInt8)) (nm : List UInt8) {L M : List Nat} (h : L.Perm M) : totI T N L nm = totI T N M nm := by
  induction h with
  | nil => rfl
  | cons x _ ih =>
    show (if N.getD x [] = nm then (tg T x).add (totI T N _ nm) else totI T N _ nm) = (if N.getD x [] = nm then (tg T x).add (totI T N _ nm) else totI T N _ nm)
    rw [ih]
  | swap x y l =>
    show (if N.getD y [] = nm then (tg T y).add (if N.getD x [] = nm then (tg T x).add (totI T N l nm) else totI T N l nm) else (if N.getD x [] = nm then (tg T x).add (totI T N l nm) else totI T N l nm)) = (if N.getD x [] = nm then (tg T x).add (if N.getD y [] = nm then (tg T y).add (totI T N l nm) else totI T N l nm) else (if N.getD y [] = nm then (tg T y).add (totI T N l nm) else totI T N l nm))
    by_cases h1 : N.getD x [] = nm <;> by_cases h2 : N.getD y [] = nm
    · rw [if_pos h1, if_pos h2, if_pos h1, if_pos h2, add_left_comm]
    · rw [if_neg h2, if_pos h1, if_pos h1, if_neg h2]
    · rw [if_pos h2, if_neg h1, if_neg h1, if_pos h2]
    · rw [if_neg h2, if_neg h1, if_neg h1, if_neg h2]
  | trans _ _ h1 h2 => exact h1.trans h2
theorem totI_append (T : List V) (N : List (List UInt8)) (nm : List UInt8) : ∀ L M : List Nat, totI T N (L ++ M) nm = (totI T N L nm).add (totI T N M nm)
  | [], M => by show totI T N M nm = V.nil.add _; rw [nil_add]
  | t :: r, M => by
    show (if N.getD t [] = nm then (tg T t).add (totI T N (r ++ M) nm) else totI T N (r ++ M) nm) = (if N.getD t [] = nm then (tg T t).add (totI T N r nm) else totI T N r nm).add _
    rw [totI_append T N nm r M]
    split
    · rw [add_add]
    · rfl
theorem totI_zip (T : List V) (N : List (List UInt8)) (nm : List UInt8) (hl : N.length = T.length) : ∀ k, k ≤ T.length → totI T N (List.range k) nm = tot ((T.zip N).take k) nm
  | 0, _ => by rw [List.range_zero, List.take_zero]; rfl
  | k + 1, hk => by
    have hN : N[k]? = some (N.getD k []) := by
      rw [List.getElem?_eq_getElem (by omega), List.getD_eq_getElem?_getD, List.getElem?_eq_getElem (by omega)]
      rfl
    rw [List.range_succ, totI_append, totI_zip T N nm hl k (by omega), take_next (zip_at (tg_lt (by omega)) hN), tot_append]
    rfl
theorem fitG_keep (T : List V) : ∀ (l : List Nat) (st st' : St) (u : Nat), fitG T l st = some st' → u ∉ l → st'.2[u]? = st.2[u]?
  | [], st, st', u, h, _ => by cases h; rfl
  | t :: r, st, st', u, h, hu => by
    have h' : (stepF T t st).bind (fitG T r) = some st' := h
    obtain ⟨s1, e1, e2⟩ := Option.bind_eq_some_iff.1 h'
    have ih := fitG_keep T r s1 st' u e2 (fun q => hu (List.mem_cons_of_mem _ q))
    unfold stepF at e1
    split at e1
    · cases e1
    · cases e1
      rw [ih]
      show (st.2.set t _)[u]? = _
      rw [List.getElem?_set, if_neg (fun e => hu (by rw [e]; exact List.mem_cons_self ..))]
theorem fit_all (T : List V) (hT : allOk T = true) : ∀ (L : List Nat) (S : List Sl) (N : List (List UInt8)) (st : St), fitG T L (S, N) = some st → L.Nodup → (∀ t ∈ L, t < T.length ∧ t < N.length) → allS S = true → Nod S →
    st.1 = S.map (fun s => ⟨s.nm, s.v.sub (totI T st.2 L s.nm)⟩) ∧ allS st.1 = true ∧ ∀ t ∈ L, (plc (st.2.getD t []) S).isSome = true
  | [], S, N, st, h, _, _, hS, _ => by
    cases h
    refine ⟨?_, hS, fun t ht => by cases ht⟩
    refine List.ext_getElem? fun i => ?_
    rw [List.getElem?_map]
    show S[i]? = _
    cases S[i]? with
    | none => rfl
    | some s => show some s = some ⟨s.nm, s.v.sub V.nil⟩; rw [sub_nil]
  | t :: r, S, N, st, h, hd, hb, hS, hN => by
    have h' : (stepF T t (S, N)).bind (fitG T r) = some st := h
    obtain ⟨s1, e1, e2⟩ := Option.bind_eq_some_iff.1 h'
    unfold stepF at e1
    split at e1
    · cases e1
    · rename_i k hk
      have hk' : hold (tg T t) S = some k := hk
      obtain ⟨s, hs, hf, _⟩ := hold_some hk'
      have eg : S.getD k default = s := by rw [List.getD_eq_getElem?_getD, hs]; rfl
      have e3 : s1 = (setV S k (tg T t), N.set t s.nm) := by
        rw [← eg]
        exact (Option.some.inj e1).symm
      subst e3
      have hto := tg_ok hT (hb t (List.mem_cons_self ..)).1
      have hnm := setV_nm S k (tg T t)
      obtain ⟨i1, i2, i3⟩ := fit_all T hT r _ _ st e2 (List.nodup_cons.1 hd).2 (fun u hu => ⟨(hb u (List.mem_cons_of_mem _ hu)).1, by rw [List.length_set]; exact (hb u (List.mem_cons_of_mem _ hu)).2⟩) (setV_ok hS hs hto hf) (nod_nm hnm hN)
      have ht2 : st.2.getD t [] = s.nm := by
        rw [List.getD_eq_getElem?_getD, fitG_keep T r _ st t e2 (List.nodup_cons.1 hd).1]
        show ((N.set t s.nm)[t]?).getD [] = _
        rw [List.getElem?_set_self (hb t (List.mem_cons_self ..)).2]
        rfl
      refine ⟨?_, i2, fun u hu => ?_⟩
      · rw [i1]
        refine List.ext_getElem? fun i => ?_
        rw [List.getElem?_map, List.getElem?_map, setV_get]
        by_cases q : k = i
        · subst q
          rw [if_pos rfl, hs]
          show some (⟨s.nm, (s.v.sub (tg T t)).sub (totI T st.2 r s.nm)⟩ : Sl) = some ⟨s.nm, s.v.sub (if st.2.getD t [] = s.nm then (tg T t).add (totI T st.2 r s.nm) else totI T st.2 r s.nm)⟩
          rw [if_pos ht2, sub_sub]
        · rw [if_neg q]
          cases hy : S[i]? with
          | none => rfl
          | some y =>
            show some (⟨y.nm, y.v.sub (totI T st.2 r y.nm)⟩ : Sl) = some ⟨y.nm, y.v.sub (if st.2.getD t [] = y.nm then (tg T t).add (totI T st.2 r y.nm) else totI T st.2 r y.nm)⟩
            rw [if_neg (by rw [ht2]; exact nod_ne hN hs hy q)]
      · rcases List.mem_cons.1 hu with rfl | hu
        · rw [ht2]
          cases hp : plc s.nm S with
          | none => exact absurd rfl (plc_none hp s (List.mem_of_getElem? hs))
          | some j => rfl
        · have := i3 u hu
          rwa [plc_nm hnm] at this
/-- what follows where a gang finds room -/
theorem fit_room {T : List V} {S : List Sl} (h : (fitR T S).1 = 0) : chk T S = 0 ∧ (fitR T S).2.length = T.length ∧ knB (fitR T S).2 S = true ∧ ∀ s ∈ S, (s.v.sub (tot (T.zip (fitR T S).2) s.nm)).ok = true := by
  rcases fitR_len T S with ⟨_, hl, hc⟩ | ⟨q, _⟩
  · refine ⟨hc, hl, ?_⟩
    obtain ⟨k1, k2, k3, k4, k5⟩ := chk_ok hc
    have hfit : ∃ st, fitG T (ordT T) (fit0 T S) = some st ∧ (fitR T S).2 = st.2 := by
      unfold fitR at h ⊢
      rw [if_pos hc] at h ⊢
      cases hg : fitG T (ordT T) (fit0 T S) with
      | none => rw [hg] at h; cases h
      | some st => exact ⟨st, rfl, rfl⟩
    obtain ⟨st, hg, e⟩ := hfit
    rw [e] at hl ⊢
    have ho := ordT_ord T
    have hnd : (ordT T).Nodup := ho.1.nodup_iff.2 List.nodup_range
    obtain ⟨i1, i2, i3⟩ := fit_all T k1 (ordT T) S (List.replicate T.length []) st hg hnd (fun t ht => ⟨ho.lt ht, by rw [List.length_replicate]; exact ho.lt ht⟩) k2 k3
    have htz : ∀ nm, totI T st.2 (ordT T) nm = tot (T.zip st.2) nm := fun nm => by
      rw [totI_perm T st.2 nm ho.1, totI_zip T st.2 nm hl T.length (Nat.le_refl _), List.take_of_length_le (by rw [List.length_zip]; omega)]
    refine ⟨List.all_eq_true.2 fun nm hnm => ?_, fun s hs => ?_⟩
    · obtain ⟨t, ht, rfl⟩ := List.getElem_of_mem hnm
      have := i3 t (ho.1.mem_iff.2 (List.mem_range.2 (by omega)))
      rwa [List.getD_eq_getElem?_getD, List.getElem?_eq_getElem ht] at this
    · rw [i1] at i2
      have := List.all_eq_true.1 i2 _ (List.mem_map_of_mem hs)
      simp only [htz] at this
      exact this
  · exact absurd h q
theorem zip_ok {T : List V} {N : List (List UInt8)} (h : allOk T = true) : ∀ x ∈ T.zip N, x.1.ok = true := fun x hx => by
  have : x.1 ∈ T := (List.of_mem_zip (a := x.1) (b := x.2) hx).1
  exact List.all_eq_true.1 h _ this
theorem zip_kn {T : List V} {N : List (List UInt8)} {S : List Sl} (h : knB N S = true) : ∀ x ∈ T.zip N, (plc x.2 S).isSome = true := fun x hx => by
  have : x.2 ∈ N := (List.of_mem_zip (a := x.1) (b := x.2) hx).2
  exact List.all_eq_true.1 h _ this
/-- what finds room can be taken, and given back -/
theorem fit_back {T : List V} {S : List Sl} (h : (fitR T S).1 = 0) : (movR subR T (fitR T S).2 S).1 = 0 ∧ movR addR T (fitR T S).2 (movR subR T (fitR T S).2 S).2 = (0, S) := by
  obtain ⟨hc, hl, hk, hr⟩ := fit_room h
  obtain ⟨k1, k2, k3, k4, k5⟩ := chk_ok hc
  generalize (fitR T S).2 = N at *
  have hg := mov_all subR V.sub (fun v u hv hu hvu => by unfold subR; rw [hv, hu, hvu]; rfl) sub_sub sub_nil (fun s v t => sub_mid) (T.zip N) S (zip_ok k1) k2 k3 (zip_kn hk) hr
  have h1 := (movR_go hc hl hk).1 _ hg
  rw [h1]
  refine ⟨rfl, ?_⟩
  have hnm : (S.map fun s => (⟨s.nm, s.v.sub (tot (T.zip N) s.nm)⟩ : Sl)).map Sl.nm = S.map Sl.nm := by
    rw [List.map_map]
    rfl
  have hall : allS (S.map fun s => (⟨s.nm, s.v.sub (tot (T.zip N) s.nm)⟩ : Sl)) = true := List.all_eq_true.2 fun y hy => by
    obtain ⟨s, hs, rfl⟩ := List.mem_map.1 hy
    exact hr s hs
  have hc1 : chk T (S.map fun s => (⟨s.nm, s.v.sub (tot (T.zip N) s.nm)⟩ : Sl)) = 0 := by
    unfold chk
    rw [k1, hall, if_neg (by decide), if_neg (fun q => q (nod_nm hnm k3)), if_neg (by omega)]
  have hk1 : knB N (S.map fun s => (⟨s.nm, s.v.sub (tot (T.zip N) s.nm)⟩ : Sl)) = true := List.all_eq_true.2 fun y hy => by
    rw [plc_nm hnm]
    exact List.all_eq_true.1 hk y hy
  have hg2 := mov_all addR V.add (fun v u hv hu hvu => by unfold addR; rw [hv, hu, hvu]; rfl) add_add add_nil (fun s v t => add_mid) (T.zip N) _ (zip_ok k1) hall (nod_nm hnm k3) (zip_kn hk1) (fun y hy => by
    obtain ⟨s, hs, rfl⟩ := List.mem_map.1 hy
    show ((s.v.sub (tot (T.zip N) s.nm)).add (tot (T.zip N) s.nm)).ok = true
    rw [sub_add]
    exact List.all_eq_true.1 k2 s hs)
  rw [(movR_go hc1 hl hk1).1 _ hg2]
  congr 1
  rw [List.map_map]
  refine List.ext_getElem? fun i => ?_
  rw [List.getElem?_map]
  cases S[i]? with
  | none => rfl
  | some s =>
    show some (⟨s.nm, (s.v.sub (tot (T.zip N) s.nm)).add (tot (T.zip N) s.nm)⟩ : Sl) = some s
    rw [sub_add]
end Go.Proofs.YtjgibngnjlciaaaGreat
