/-
  Plain mathematics: what a take does to the steps.
-/
import Derived.Test.YtjgibngnjlciaaaGreatPMa
namespace Go.Proofs.YtjgibngnjlciaaaGreat

/-- each step says something new, but at places in X -/
def NdP (C : V) (L : List Stp) (X : Nat → Prop) : Prop := ∀ i s, L[i]? = some s → ¬ X i → s.fr ≠ pv C L i
theorem nd_ins {C : V} {L : List Stp} {t : Int} {k : Nat} {X : Nat → Prop} (hk : IsK L t k) (h : NdP C L X) (hX : ∀ i, X i → i < k) : NdP C (insS L k ⟨t, pv C L k⟩) (fun i => X i ∨ i = k) := by
  intro i s hs hn
  have hl := hk.le
  rw [insS_get hl] at hs
  split at hs
  · rename_i h1
    rw [pv_ins_lo hl (by omega)]
    exact h i s hs fun q => hn (.inl q)
  · rw [if_neg (fun e => hn (.inr e))] at hs
    have h2 : i ≠ k := fun e => hn (.inr e)
    have h3 := (List.getElem?_eq_some_iff.1 hs).1
    have h4 := h (i - 1) s hs fun q => by have := hX _ q; omega
    obtain ⟨j, rfl⟩ : ∃ j, i = j + 1 := ⟨i - 1, by omega⟩
    rw [Nat.add_sub_cancel] at *
    by_cases e : j = k
    · subst e
      rw [pv_ins_at hl]
      exact h4
    · rw [pv_ins_hi hl (by omega) (by omega)]
      exact h4

/-! ### steps lowered -/
def lowS (L : List Stp) (i j : Nat) (v : V) : List Stp := L.mapIdx fun k s => if i ≤ k ∧ k < j then ⟨s.at', s.fr.sub v⟩ else s
theorem lowS_get (L : List Stp) (i j : Nat) (v : V) (k : Nat) : (lowS L i j v)[k]? = L[k]?.map fun s => if i ≤ k ∧ k < j then ⟨s.at', s.fr.sub v⟩ else s := by
  unfold lowS
  rw [List.getElem?_mapIdx]
theorem lowS_length (L : List Stp) (i j : Nat) (v : V) : (lowS L i j v).length = L.length := by unfold lowS; simp
theorem lowS_self (L : List Stp) (i : Nat) (v : V) : lowS L i i v = L := by
  apply List.ext_getElem?
  intro k
  rw [lowS_get]
  cases L[k]? with
  | none => rfl
  | some s => simp; omega
theorem lowS_succ {L : List Stp} {i j : Nat} {v : V} {s : Stp} (hij : i ≤ j) (hj : L[j]? = some s) : (lowS L i j v).set j ⟨s.at', s.fr.sub v⟩ = lowS L i (j + 1) v := by
  apply List.ext_getElem?
  intro k
  have hl := (List.getElem?_eq_some_iff.1 hj).1
  rw [lowS_get, List.getElem?_set]
  by_cases e : j = k
  · subst e
    rw [if_pos rfl, if_pos (by rw [lowS_length]; exact hl), hj]
    simp
    omega
  · rw [if_neg e, lowS_get]
    cases L[k]? with
    | none => rfl
    | some u =>
      simp only [Option.map_some]
      by_cases h1 : i ≤ k ∧ k < j
      · rw [if_pos h1, if_pos (by omega)]
      · rw [if_neg h1, if_neg (by omega)]
theorem lowS_at {L : List Stp} {i j : Nat} {v : V} {s : Stp} (hj : L[j]? = some s) : (lowS L i j v)[j]? = some s := by
  rw [lowS_get, hj]
  simp
theorem isK_low {L : List Stp} {i j : Nat} {v : V} {t : Int} {k : Nat} (h : IsK L t k) : IsK (lowS L i j v) t k := by
  have key : ∀ (m : Nat) (s : Stp), (lowS L i j v)[m]? = some s → ∃ u : Stp, L[m]? = some u ∧ u.at' = s.at' := by
    intro m s hm
    rw [lowS_get] at hm
    cases q : L[m]? with
    | none => rw [q] at hm; cases hm
    | some u =>
      rw [q] at hm
      simp only [Option.map_some, Option.some.injEq] at hm
      refine ⟨u, rfl, ?_⟩
      rw [← hm]
      split <;> rfl
  refine ⟨by rw [lowS_length]; exact h.le, fun m s hm hk => ?_, fun m s hm hk => ?_⟩
  · obtain ⟨u, h1, h2⟩ := key m s hm
    rw [← h2]; exact h.lo m u h1 hk
  · obtain ⟨u, h1, h2⟩ := key m s hm
    rw [← h2]; exact h.hi m u h1 hk
theorem pv_low {C : V} {L : List Stp} {i j : Nat} {v : V} {k : Nat} (hk : k ≤ L.length) : pv C (lowS L i j v) k = if i < k ∧ k ≤ j then (pv C L k).sub v else pv C L k := by
  cases k with
  | zero => rw [pv_zero, pv_zero, if_neg (by omega)]
  | succ k =>
    have h1 : k < L.length := by omega
    have h2 := List.getElem?_eq_getElem h1
    rw [pv_succ (L := lowS L i j v) (by rw [lowS_get, h2]; rfl), pv_succ h2]
    simp only
    by_cases h3 : i ≤ k ∧ k < j
    · rw [if_pos h3, if_pos (by omega)]
    · rw [if_neg h3, if_neg (by omega)]
theorem srt_low {L : List Stp} {i j : Nat} {v : V} (h : Srt L) : Srt (lowS L i j v) := by
  refine srt_of fun x y s u hxy hx hy => ?_
  rw [lowS_get] at hx hy
  cases q : L[x]? with
  | none => rw [q] at hx; cases hx
  | some a =>
    cases r : L[y]? with
    | none => rw [r] at hy; cases hy
    | some b =>
      rw [q] at hx
      rw [r] at hy
      simp only [Option.map_some, Option.some.injEq] at hx hy
      have := h.lt hxy q r
      rw [← hx, ← hy]
      split <;> split <;> exact this
theorem fa_lowS {C : V} {L : List Stp} (h : Srt L) {i j : Nat} {v : V} {s r : Stp} (hi : L[i]? = some s) (hj : L[j]? = some r) (u : Int) : fa C (lowS L i j v) u = if s.at' ≤ u ∧ u < r.at' then (fa C L u).sub v else fa C L u := by
  obtain ⟨k, hk⟩ := isK_ex h u
  rw [fa_k (isK_low hk), fa_k hk, pv_low hk.le]
  have e1 : i < k ↔ s.at' ≤ u := ⟨fun q => hk.lo i s hi q, fun q => by
    apply Classical.byContradiction
    intro hn
    have := hk.hi i s hi (by omega)
    omega⟩
  have e2 : k ≤ j ↔ u < r.at' := ⟨fun q => hk.hi j r hj q, fun q => by
    apply Classical.byContradiction
    intro hn
    have := hk.lo j r hj (by omega)
    omega⟩
  by_cases q : i < k ∧ k ≤ j
  · rw [if_pos q, if_pos ⟨e1.1 q.1, e2.1 q.2⟩]
  · rw [if_neg q, if_neg fun ⟨a, b⟩ => q ⟨e1.2 a, e2.2 b⟩]
theorem nd_low {C : V} {L : List Stp} {X : Nat → Prop} {i j : Nat} {v : V} (h : NdP C L X) (hi : X i) (hj : X j) : NdP C (lowS L i j v) X := by
  intro k s hs hn
  rw [lowS_get] at hs
  cases q : L[k]? with
  | none => rw [q] at hs; cases hs
  | some a =>
    have hl := (List.getElem?_eq_some_iff.1 q).1
    rw [q] at hs
    simp only [Option.map_some, Option.some.injEq] at hs
    have h1 := h k a q hn
    have h2 : k ≠ i := fun e => hn (e ▸ hi)
    have h3 : k ≠ j := fun e => hn (e ▸ hj)
    rw [pv_low (by omega), ← hs]
    by_cases h4 : i ≤ k ∧ k < j
    · rw [if_pos h4, if_pos (by omega)]
      exact fun e => h1 (V.sub_inj e)
    · rw [if_neg h4, if_neg (by omega)]
      exact h1

/-! ### a step joined -/
def jnS (C : V) (L : List Stp) (k : Nat) : List Stp := if pv C L (k + 1) = pv C L k then delS L k else L
theorem jn_yes {C : V} {L : List Stp} {k : Nat} {s : Stp} (h : L[k]? = some s) (e : s.fr = pv C L k) : jnS C L k = delS L k := by unfold jnS; rw [if_pos (by rw [pv_succ h]; exact e)]
theorem jn_no {C : V} {L : List Stp} {k : Nat} {s : Stp} (h : L[k]? = some s) (e : s.fr ≠ pv C L k) : jnS C L k = L := by unfold jnS; rw [if_neg (by rw [pv_succ h]; exact e)]
structure Jn (C : V) (L : List Stp) (k : Nat) (L' : List Stp) : Prop where
  srt : Srt L'
  fa : ∀ u, fa C L' u = fa C L u
  nd : ∀ X, NdP C L X → (∀ i, X i → i ≤ k) → NdP C L' (fun i => X i ∧ i < k)
  len : L'.length ≤ L.length
  mem : ∀ s ∈ L', s ∈ L
  lo : ∀ i, i < k → L'[i]? = L[i]?
theorem jn_any {C : V} {L : List Stp} {k : Nat} {s : Stp} (hs : Srt L) (h : L[k]? = some s) : Jn C L k (jnS C L k) := by
  have hl := (List.getElem?_eq_some_iff.1 h).1
  by_cases e : s.fr = pv C L k
  · rw [jn_yes h e]
    refine ⟨srt_del hs hl, fa_del hs h e, fun X hX hk i u hu hn => ?_, by rw [delS_length _ _ hl]; omega, fun u hu => ?_, fun i hi => by rw [delS_get hl, if_pos hi]⟩
    · rw [delS_get hl] at hu
      split at hu
      · rename_i h1
        rw [pv_del_lo hl (by omega)]
        exact hX i u hu fun q => hn ⟨q, h1⟩
      · rename_i h1
        have h2 := hX (i + 1) u hu fun q => by have := hk _ q; omega
        have h3 := (List.getElem?_eq_some_iff.1 hu).1
        by_cases h4 : i = k
        · subst h4
          rw [pv_del_lo hl (Nat.le_refl _), ← e]
          rwa [pv_succ h] at h2
        · rw [pv_del_hi hl (by omega) (by omega)]
          exact h2
    · obtain ⟨i, hi⟩ := List.getElem?_of_mem hu
      rw [delS_get hl] at hi
      split at hi <;> exact List.mem_of_getElem? hi
  · rw [jn_no h e]
    refine ⟨hs, fun _ => rfl, fun X hX hk i u hu hn => ?_, Nat.le_refl _, fun _ h => h, fun _ _ => rfl⟩
    by_cases h1 : i = k
    · subst h1
      rw [h] at hu
      cases hu
      exact e
    · exact hX i u hu fun q => hn ⟨q, by have := hk _ q; omega⟩

/-! ### a step made -/
structure Spl (C : V) (L : List Stp) (t : Int) (L1 : List Stp) (p : Nat) : Prop where
  srt : Srt L1
  at' : ∃ s : Stp, L1[p]? = some s ∧ s.at' = t
  fa : ∀ u, fa C L1 u = fa C L u
  nd : ∀ X, NdP C L X → (∀ i, X i → i < p) → NdP C L1 (fun i => X i ∨ i = p)
  len : L1.length ≤ L.length + 1
  keep : ∀ (i : Nat) (s : Stp), L[i]? = some s → s.at' < t → L1[i]? = some s
  mem : ∀ s ∈ L1, s ∈ L ∨ s.at' = t
theorem spl_old {C : V} {L : List Stp} {t : Int} {p : Nat} {s : Stp} (hs : Srt L) (h : L[p]? = some s) (e : s.at' = t) : Spl C L t L p :=
  ⟨hs, ⟨s, h, e⟩, fun _ => rfl, fun X hX _ i u hu hn => hX i u hu fun q => hn (.inl q), by omega, fun _ _ h _ => h, fun s h => .inl h⟩
theorem spl_new {C : V} {L : List Stp} {t : Int} {k : Nat} (hs : Srt L) (h : IsK L t k) (hn : ∀ (i : Nat) (s : Stp), L[i]? = some s → i < k → s.at' ≠ t) : Spl C L t (insS L k ⟨t, pv C L k⟩) k := by
  have hl := h.le
  refine ⟨srt_ins hs h hn, ⟨_, by rw [insS_get hl, if_neg (by omega), if_pos rfl], rfl⟩, fa_ins h, fun X hX hk => nd_ins h hX hk, by rw [insS_length _ _ _ hl]; omega, fun i s hi ht => ?_, fun s hs => ?_⟩
  · rw [insS_get hl, if_pos, hi]
    apply Classical.byContradiction
    intro q
    have := h.hi i s hi (by omega)
    omega
  · obtain ⟨i, hi⟩ := List.getElem?_of_mem hs
    rw [insS_get hl] at hi
    split at hi
    · exact .inl (List.mem_of_getElem? hi)
    · split at hi
      · cases hi; exact .inr rfl
      · exact .inl (List.mem_of_getElem? hi)

/-! ### a take -/
def tkF (f : Int → V) (a b : Int) (v : V) : Int → V := fun u => if a ≤ u ∧ u < b then (f u).sub v else f u
structure Tkn (C : V) (L : List Stp) (a b : Int) (v : V) (L' : List Stp) : Prop where
  srt : Srt L'
  nod : NdP C L' fun _ => False
  fa : ∀ u, fa C L' u = tkF (fa C L) a b v u
  len : L'.length ≤ L.length + 2
  mem : ∀ s ∈ L', (∃ r ∈ L, r.at' = s.at') ∨ s.at' = a ∨ s.at' = b
theorem spl_lt {C : V} {L L1 L2 : List Stp} {a b : Int} {p q : Nat} (h1 : Spl C L a L1 p) (h2 : Spl C L1 b L2 q) (hab : a < b) : p < q ∧ ∃ s r : Stp, L2[p]? = some s ∧ s.at' = a ∧ L2[q]? = some r ∧ r.at' = b := by
  obtain ⟨s, e1, e2⟩ := h1.at'
  obtain ⟨r, e3, e4⟩ := h2.at'
  have e5 := h2.keep p s e1 (by omega)
  refine ⟨?_, s, r, e5, e2, e3, e4⟩
  apply Classical.byContradiction
  intro hn
  by_cases e : p = q
  · subst e
    rw [e5] at e3
    cases e3
    omega
  · have := h2.srt.lt (i := q) (j := p) (by omega) e3 e5
    omega
theorem tkn_any {C : V} {L L1 L2 : List Stp} {a b : Int} {p q : Nat} (v : V) (hn : NdP C L fun _ => False) (h1 : Spl C L a L1 p) (h2 : Spl C L1 b L2 q) (hab : a < b) : Tkn C L a b v (jnS C (jnS C (lowS L2 p q v) q) p) := by
  obtain ⟨hpq, s, r, e1, e2, e3, e4⟩ := spl_lt h1 h2 hab
  have n1 := h1.nd _ hn fun _ q => q.elim
  have n2 := h2.nd _ n1 fun i hi => by rcases hi with hi | hi; · exact hi.elim
                                       · omega
  have n3 := nd_low (i := p) (j := q) (v := v) n2 (.inl (.inr rfl)) (.inr rfl)
  have s3 : Srt (lowS L2 p q v) := srt_low h2.srt
  have j1 := jn_any (C := C) s3 (lowS_at e3)
  have n4 := j1.nd _ n3 fun i hi => by rcases hi with (hi | hi) | hi; · exact hi.elim
                                       · omega
                                       · omega
  obtain ⟨s', es, ess⟩ : ∃ s' : Stp, (jnS C (lowS L2 p q v) q)[p]? = some s' ∧ s'.at' = a := by
    rw [j1.lo p hpq, lowS_get, e1]
    exact ⟨_, rfl, by simp only; split <;> exact e2⟩
  have j2 := jn_any (C := C) j1.srt es
  have n5 := j2.nd _ n4 fun i hi => by rcases hi with ⟨(hi | hi) | hi, hq⟩; · exact hi.elim
                                       · omega
                                       · omega
  have hmem : ∀ x ∈ lowS L2 p q v, ∃ y ∈ L2, y.at' = x.at' := fun x hx => by
    obtain ⟨i, hi⟩ := List.getElem?_of_mem hx
    rw [lowS_get] at hi
    cases w : L2[i]? with
    | none => rw [w] at hi; cases hi
    | some y =>
      rw [w] at hi
      simp only [Option.map_some, Option.some.injEq] at hi
      exact ⟨y, List.mem_of_getElem? w, by rw [← hi]; split <;> rfl⟩
  refine ⟨j2.srt, fun i x hx hn => n5 i x hx fun ⟨⟨k, kq⟩, kp⟩ => ?_, fun u => ?_, ?_, fun x hx => ?_⟩
  · rcases k with (k | k) | k
    · exact k.elim
    · omega
    · omega
  · rw [j2.fa, j1.fa, fa_lowS h2.srt e1 e3]
    unfold tkF
    rw [e2, e4, h2.fa, h1.fa]
  · have l1 := j2.len
    have l2 := j1.len
    rw [lowS_length] at l2
    have l3 := h2.len
    have l4 := h1.len
    omega
  · obtain ⟨y, hy, e⟩ := hmem x (j1.mem x (j2.mem x hx))
    rcases h2.mem y hy with k | k
    · rcases h1.mem y k with k | k
      · exact .inl ⟨y, k, e⟩
      · exact .inr (.inl (by omega))
    · exact .inr (.inr (by omega))

/-! ### a profile -/
structure Pf (C : V) (L : List Stp) : Prop where
  srt : Srt L
  nod : NdP C L fun _ => False
  ck : C.ok = true
  bd : ∀ s ∈ L, 0 ≤ s.at' ∧ s.at' ≤ 1099511627776
  fo : ∀ u, (fa C L u).ok = true ∧ (fa C L u).le C
  fin : pv C L L.length = C
theorem Pf.nil {C : V} (h : C.ok = true) : Pf C [] := ⟨List.Pairwise.nil, fun i s hs => by simp at hs, h, by simp, fun u => ⟨h, V.le_refl _⟩, rfl⟩
theorem Pf.end {C : V} {L : List Stp} (h : Pf C L) : IsK L 1099511627776 L.length :=
  ⟨Nat.le_refl _, fun i s hs _ => (h.bd s (List.mem_of_getElem? hs)).2, fun i s hs hl => by have := (List.getElem?_eq_some_iff.1 hs).1; omega⟩
theorem Pf.take {C : V} {L L' : List Stp} {a b : Int} {v : V} (h : Pf C L) (ha : 0 ≤ a) (hab : a < b) (hb : b ≤ 1099511627776) (hv : v.ok = true) (hf : ∀ u, a ≤ u → u < b → v.le (fa C L u)) (k : Tkn C L a b v L') : Pf C L' := by
  have bd : ∀ s ∈ L', 0 ≤ s.at' ∧ s.at' ≤ 1099511627776 := fun s hs => by
    rcases k.mem s hs with ⟨r, hr, e⟩ | e | e
    · have := h.bd r hr; omega
    · omega
    · omega
  refine ⟨k.srt, k.nod, h.ck, bd, fun u => ?_, ?_⟩
  · rw [k.fa]
    unfold tkF
    split
    · rename_i q
      have h1 := hf u q.1 q.2
      obtain ⟨h2, h3⟩ := h.fo u
      refine ⟨V.ok_sub h2 hv h1, ?_⟩
      rw [V.ok_iff] at hv
      unfold V.le V.sub at *
      simp only
      omega
    · exact h.fo u
  · have e1 : IsK L' 1099511627776 L'.length := ⟨Nat.le_refl _, fun i s hs _ => (bd s (List.mem_of_getElem? hs)).2, fun i s hs hl => by have := (List.getElem?_eq_some_iff.1 hs).1; omega⟩
    have e2 := fa_k (C := C) e1
    rw [k.fa] at e2
    unfold tkF at e2
    rw [if_neg (by omega), fa_k h.end, h.fin] at e2
    exact e2.symm
theorem Pf.st {C : V} {L : List Stp} (h : Pf C L) {i : Nat} {s : Stp} (hi : L[i]? = some s) : s.fr.ok = true ∧ s.fr.le C := by
  have := h.fo s.at'
  rwa [fa_at h.srt hi] at this
theorem Pf.pv {C : V} {L : List Stp} (h : Pf C L) {i : Nat} (hi : i ≤ L.length) : (pv C L i).ok = true ∧ (pv C L i).le C := by
  cases i with
  | zero => rw [pv_zero]; exact ⟨h.ck, V.le_refl _⟩
  | succ i =>
    have := List.getElem?_eq_getElem (show i < L.length by omega)
    rw [pv_succ this]
    exact h.st this
theorem Pf.uniq {C : V} {L M : List Stp} (h : Pf C L) (k : Pf C M) (e : ∀ t, fa C L t = fa C M t) : L = M :=
  Go.Proofs.YtjgibngnjlciaaaGreat.uniq h.srt k.srt (fun i s hs => h.nod i s hs id) (fun i s hs => k.nod i s hs id) e
end Go.Proofs.YtjgibngnjlciaaaGreat
