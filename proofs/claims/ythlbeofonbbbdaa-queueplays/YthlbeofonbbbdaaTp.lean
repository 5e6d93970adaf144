/-
  Tenants. A queue that is emptied from its heads, tenant by tenant: the mathematics. Top. QueueTop's law.
-/
import Derived.Test.YthlbeofonbbbdaaIter
import Derived.Test.YthlbeofonbbbdaaBa
import Derived.Test.YthlbeofonbbbdaaBb
import Derived.BigQuiet
namespace Go.Proofs.Ythlbeofonbbbdaa
open Go.RowKit Go.Maps Go.WideMaps Go.Sort

theorem bb_lt : ∀ {a b : List UInt8}, bytesBefore a b = true → a < b
  | [], [], h => by simp [bytesBefore] at h
  | [], _ :: _, _ => List.nil_lt_cons _ _
  | _ :: _, [], h => by simp [bytesBefore] at h
  | x :: r, y :: s, h => by
    simp only [bytesBefore, Bool.or_eq_true, decide_eq_true_eq, Bool.and_eq_true, beq_iff_eq] at h
    rw [List.cons_lt_cons_iff]
    rcases h with h | ⟨h1, h2⟩
    · exact .inl h
    · exact .inr ⟨h1, bb_lt h2⟩
theorem names_sorted {l ss : List (List UInt8)} (hs : l.Pairwise fun x y => bytesBefore x y = true) (hp : ss.Perm l) : ss.mergeSort (fun x y => decide (x ≤ y)) = l := by
  have tr : ∀ a b c : List UInt8, leB a b = true → leB b c = true → leB a c = true := fun a b c h1 h2 => by simp only [leB, decide_eq_true_eq] at *; exact List.le_trans h1 h2
  have tot : ∀ a b : List UInt8, (leB a b || leB b a) = true := fun a b => by simp only [leB, Bool.or_eq_true, decide_eq_true_eq]; exact List.le_total a b
  refine List.Perm.eq_of_pairwise (le := fun a b => leB a b = true) (fun a b _ _ h1 h2 => ?_) (List.pairwise_mergeSort tr tot ss) ?_ ((List.mergeSort_perm ss leB).trans hp)
  · simp only [leB, decide_eq_true_eq] at h1 h2
    exact List.le_antisymm h1 h2
  · refine List.Pairwise.imp (fun {a b} hab => ?_) hs
    simp only [leB, decide_eq_true_eq]
    exact List.le_of_lt (bb_lt hab)
/-- a name's cell -/
def sC (s : List UInt8) : List Value := [.string ⟨⟨s⟩⟩]
theorem sC_len (s : List UInt8) : (sC s).length = 1 := rfl
theorem sC_one (s : List UInt8) : ∀ u ∈ sC s, u.oneCell' = true := by
  intro u hu
  rw [List.mem_singleton.1 hu]
  rfl
abbrev SR (b : Nat) (w : World) (v : Value) (L : List (List UInt8)) : Prop := GRow 9 1 sC b w v L
theorem mem_tens {t : List UInt8} : ∀ {D : List J}, t ∈ tens D ↔ ∃ a ∈ D, a.tn = t
  | [] => by simp [tens]
  | [a] => by simp [tens, eq_comm]
  | a :: b :: r => by
    have ih := mem_tens (t := t) (D := b :: r)
    rw [tens]
    simp only [List.head?_cons]
    split
    · rename_i e
      rw [ih]
      constructor
      · rintro ⟨c, hc, h⟩; exact ⟨c, List.mem_cons_of_mem _ hc, h⟩
      · rintro ⟨c, hc, h⟩
        rcases List.mem_cons.1 hc with rfl | hc
        · exact ⟨b, List.mem_cons_self .., e ▸ h⟩
        · exact ⟨c, hc, h⟩
    · rw [List.mem_cons, ih]
      constructor
      · rintro (h | ⟨c, hc, h⟩)
        · exact ⟨a, List.mem_cons_self .., h.symm⟩
        · exact ⟨c, List.mem_cons_of_mem _ hc, h⟩
      · rintro ⟨c, hc, h⟩
        rcases List.mem_cons.1 hc with rfl | hc
        · exact .inl h.symm
        · exact .inr ⟨c, hc, h⟩
theorem srt_tens : ∀ {D : List J}, SJ D → (tens D).Pairwise fun x y => bytesBefore x y = true
  | [], _ => List.Pairwise.nil
  | [a], _ => List.pairwise_singleton _ _
  | a :: b :: r, h => by
    have h1 := List.pairwise_cons.1 h
    have h2 := List.pairwise_cons.1 h1.2
    have ih := srt_tens (D := b :: r) h1.2
    rw [tens]
    simp only [List.head?_cons]
    split
    · exact ih
    · rename_i e
      have hab : bytesBefore a.tn b.tn = true := by
        have := h1.1 b (List.mem_cons_self ..)
        unfold bf at this
        rwa [if_neg e] at this
      refine List.pairwise_cons.2 ⟨fun t ht => ?_, ih⟩
      obtain ⟨c, hc, rfl⟩ := mem_tens.1 ht
      rcases List.mem_cons.1 hc with rfl | hc'
      · exact hab
      · have hac := h1.1 c hc
        unfold bf at hac
        by_cases e2 : a.tn = c.tn
        · have hbc := h2.1 c hc'
          unfold bf at hbc
          rw [if_neg (fun e3 => e (e2.trans e3.symm)), ← e2] at hbc
          exact (bb_asym hab hbc).elim
        · rwa [if_neg e2] at hac
theorem srt_uniq : ∀ {l l' : List (List UInt8)}, (l.Pairwise fun x y => bytesBefore x y = true) → (l'.Pairwise fun x y => bytesBefore x y = true) → (∀ t, t ∈ l ↔ t ∈ l') → l = l'
  | [], [], _, _, _ => rfl
  | [], b :: s, _, _, h => absurd ((h b).2 (List.mem_cons_self ..)) (by simp)
  | a :: r, [], _, _, h => absurd ((h a).1 (List.mem_cons_self ..)) (by simp)
  | a :: r, b :: s, h1, h2, h => by
    have k1 := List.pairwise_cons.1 h1
    have k2 := List.pairwise_cons.1 h2
    have e : a = b := by
      rcases List.mem_cons.1 ((h a).1 (List.mem_cons_self ..)) with e | e
      · exact e
      · rcases List.mem_cons.1 ((h b).2 (List.mem_cons_self ..)) with e2 | e2
        · exact e2.symm
        · exact (bb_asym (k2.1 a e) (k1.1 b e2)).elim
    subst e
    rw [srt_uniq k1.2 k2.2 fun t => ⟨fun ht => ?_, fun ht => ?_⟩]
    · rcases List.mem_cons.1 ((h t).1 (List.mem_cons_of_mem _ ht)) with e | e
      · subst e; exact (bb_asym (k1.1 t ht) (k1.1 t ht)).elim
      · exact e
    · rcases List.mem_cons.1 ((h t).2 (List.mem_cons_of_mem _ ht)) with e | e
      · subst e; exact (bb_asym (k2.1 t ht) (k2.1 t ht)).elim
      · exact e
theorem QAt.tens {w : World} {ow : Nat → Option (List UInt8)} {pb N : Nat} {mw mh : Option Nat} {l : List Hd} {q : List Hq} {D : List J} (h : QAt w ow pb mw mh l q N) (hp : (l.map Hd.j).Perm D) (hs : SJ D) : q.map Hq.nm = tens D := by
  refine srt_uniq (List.pairwise_map.2 h.H.srt) (srt_tens hs) fun t => ?_
  rw [mem_tens, List.mem_map]
  constructor
  · rintro ⟨z, hz, rfl⟩
    have c1 := h.H.cnt z hz
    have c2 := h.H.ne z hz
    cases hf : l.filter (fun a => a.j.tn == z.nm) with
    | nil => rw [hf] at c1; exact absurd c1 c2
    | cons a r =>
      have := List.mem_filter.1 (show a ∈ l.filter (fun a => a.j.tn == z.nm) by rw [hf]; exact List.mem_cons_self ..)
      exact ⟨a.j, hp.mem_iff.1 (List.mem_map.2 ⟨a, this.1, rfl⟩), by simpa using this.2⟩
  · rintro ⟨b, hb, rfl⟩
    obtain ⟨a, ha, rfl⟩ := List.mem_map.1 (hp.mem_iff.2 hb)
    exact h.H.has a ha
set_option maxHeartbeats 1000000 in
theorem names_raw (b nn : Nat) (D0 : DataW Nat) (w : World) (pb : Nat) (a : Value) (hc : w.heap[pb]? = some (.cells #[a, .map (some b)] 54 (0, 0))) (hown : w.ownsMap Try.prog 9 pE b nn D0) (hmax : Maps.size D0 ≤ maxLen) (hbytes : Maps.size D0 * 16 ≤ 140737488355328) :
    Calls Try.prog 13 #[.pointer (some ⟨pb, 0, none⟩)] w fun e w' => ∃ (v : Value) (ss : List (List UInt8)), e = .returned v ∧ ss.Perm (strKeys D0) ∧
      w'.ownsRow w.heap.size 9 1 v ss.length ((ss.mergeSort (fun x y => decide (x ≤ y))).map encStr) ∧ Below w.heap.size w w' := by
  have e0 := (c2 hc).2
  refine (callsIn_wide (n := 6)).1 ?_
  have hfK : Fence.wide.fn 32 := trivial
  have hfS : Fence.wide.fn 31 := trivial
  refine callsIn_of_wp Try.func13 rfl trivial ?_ rfl
  simp only [Try.ntmps13, List.size_toArray, List.length_cons, List.length_nil, Nat.reduceAdd, Nat.reduceSub, Array.replicate_succ, Array.replicate_zero, List.push_toArray, List.append_toArray, List.nil_append, List.cons_append]
  gi_wp2_with (first
    | (gi_at_call 32; refine (Try.maps_Keys_54 _ _).mono ?_; rintro e w' ⟨rfl, rfl⟩)
    | (gi_at_call 31; refine (Try.slices_Sorted_keys_53_54 b nn D0 pE w hown hmax hbytes).mono ?_; rintro e w' ⟨v, ss, rfl, hS, hrow, hnil, hb⟩))
  go_ret
  exact ⟨v, ss, rfl, hS, ownsRow_base_a hrow (by simp), ((Below.refl _ w).alloc (Nat.le_refl _) _).trans (hb.mono (by simp))⟩
set_option maxHeartbeats 1000000 in
theorem names_none (w : World) (pb : Nat) (a : Value) (hc : w.heap[pb]? = some (.cells #[a, .map none] 54 (0, 0))) :
    Calls Try.prog 13 #[.pointer (some ⟨pb, 0, none⟩)] w fun e w' => e = .returned (.slice none 0 0) ∧ Below w.heap.size w w' := by
  have e0 := (c2 hc).2
  refine (callsIn_wide (n := 6)).1 ?_
  have hfK : Fence.wide.fn 32 := trivial
  have hfS : Fence.wide.fn 31 := trivial
  refine callsIn_of_wp Try.func13 rfl trivial ?_ rfl
  simp only [Try.ntmps13, List.size_toArray, List.length_cons, List.length_nil, Nat.reduceAdd, Nat.reduceSub, Array.replicate_succ, Array.replicate_zero, List.push_toArray, List.append_toArray, List.nil_append, List.cons_append]
  gi_wp2_with (first
    | (gi_at_call 32; refine (Try.maps_Keys_54 _ _).mono ?_; rintro e w' ⟨rfl, rfl⟩)
    | (gi_at_call 31; refine (Try.slices_Sorted_keys_nil_53_54 w).mono ?_; rintro e w' ⟨v, ss, rfl, hS, hrow, hnil, hb⟩))
  go_ret
  exact ⟨by rw [hnil.2 hS]; rfl, ((Below.refl _ w).alloc (Nat.le_refl _) _).trans (hb.mono (by simp))⟩
theorem tens_any {w : World} {S : Nat → Prop} {pb N : Nat} {D : List J} (h : Que w S pb D N) :
    Calls Try.prog 13 #[.pointer (some ⟨pb, 0, none⟩)] w fun e w' => ∃ p c', e = .returned (.slice p (tens D).length c') ∧ Hid (SR w.heap.size w' (.slice p (tens D).length c') (tens D) ∧ Below w.heap.size w w') := by
  obtain ⟨⟨ow, mw, mh, l, q, h1, h2, h3, h4⟩, h5⟩ := h
  have ht := h1.tens h2 h3
  rw [← ht, List.length_map]
  have hm := h1.H.hm
  unfold MH at hm
  cases mh with
  | none =>
    subst hm
    refine (names_none w pb _ h1.W.cell).mono ?_
    rintro e w' ⟨rfl, hb⟩
    exact ⟨none, 0, rfl, World.ownsRow_nil _ _ _ _, hb⟩
  | some m =>
    have hl := h1.few
    refine (names_raw m q.length (mapH q) w pb _ h1.W.cell hm (by rw [mapH_size]; unfold maxLen; omega) (by rw [mapH_size]; omega)).mono ?_
    rintro e w' ⟨v, ss, rfl, hS, hrow, hb⟩
    have hk : strKeys (mapH q) = q.map Hq.nm := by
      unfold mapH strKeys
      simp only [List.map_map]
      rfl
    rw [hk] at hS
    rw [names_sorted (List.pairwise_map.2 h1.H.srt) hS, show ss.length = q.length by rw [hS.length_eq, List.length_map]] at hrow
    obtain ⟨p, c', rfl⟩ : ∃ p c', v = .slice p q.length c' := by
      rcases hrow.2 with ⟨rfl, hx⟩ | ⟨g, cap, cur, rfl, _⟩
      · exact ⟨none, 0, by simp at hx; simp [hx]⟩
      · exact ⟨_, _, rfl⟩
    refine ⟨p, c', rfl, ?_, hb⟩
    unfold SR GRow
    have e : ∀ L : List (List UInt8), L.flatMap sC = L.map encStr := fun L => by
      induction L with
      | nil => rfl
      | cons a r ih => rw [List.flatMap_cons, List.map_cons, ih]; rfl
    rw [e, List.length_map]
    exact hrow
end Go.Proofs.Ythlbeofonbbbdaa

namespace Go.Proofs.Ythlbeofonbbbdaa
open Go.RowKit Go.Maps Go.WideMaps

theorem tens_head {D : List J} {t : List UInt8} {T : List (List UInt8)} (h : tens D = t :: T) : ∃ a r, D = a :: r ∧ a.tn = t := by
  induction D generalizing t T with
  | nil => simp [tens] at h
  | cons a r ih =>
    refine ⟨a, r, rfl, ?_⟩
    cases r with
    | nil => simp [tens] at h; exact h.1
    | cons b s =>
      rw [tens] at h
      simp only [List.head?_cons] at h
      split at h
      · rename_i e
        obtain ⟨a', r', e1, e2⟩ := ih h
        cases e1
        rw [e]; exact e2
      · exact (List.cons.inj h).1
/-- while a tenant's waiters are taken from the head: what is left of them, and the tenants that are left -/
def Em (D : List J) (t : List UInt8) (l : List J) (T : List (List UInt8)) : Prop := SJ D ∧ NJ D ∧ ofT t D = l ∧ tens D = if l = [] then T else t :: T
theorem em_start {D : List J} {t : List UInt8} {T : List (List UInt8)} (hs : SJ D) (hn : NJ D) (h : tens D = t :: T) : Em D t (ofT t D) T ∧ ofT t D ≠ [] := by
  obtain ⟨a, r, rfl, rfl⟩ := tens_head h
  have : ofT a.tn (a :: r) ≠ [] := by unfold ofT; rw [List.filter_cons_of_pos (by simp)]; exact List.cons_ne_nil _ _
  exact ⟨⟨hs, hn, rfl, by rw [if_neg this]; exact h⟩, this⟩
theorem em_step {D : List J} {t : List UInt8} {a : J} {l : List J} {T : List (List UInt8)} (h : Em D t (a :: l) T) :
    a.tn = t ∧ headD D t = (a, 0) ∧ fJ a.job D = some a ∧ ∃ D', remD D a.job = (0, D') ∧ D = a :: D' ∧ Em D' t l T := by
  obtain ⟨hs, hn, ho, ht⟩ := h
  rw [if_neg (List.cons_ne_nil _ _)] at ht
  obtain ⟨b, r, rfl, hb⟩ := tens_head ht
  have h1 := List.pairwise_cons.1 hs
  have n1 := List.pairwise_cons.1 hn
  have e1 : ofT t (b :: r) = b :: ofT t r := by unfold ofT; rw [List.filter_cons_of_pos (by simp [hb])]
  rw [e1] at ho
  obtain ⟨rfl, rfl⟩ := List.cons.inj ho
  have hf : fJ b.job (b :: r) = some b := fJ_self hn (List.mem_cons_self ..)
  have hd : dJ b.job (b :: r) = r := by
    unfold dJ
    rw [List.filter_cons_of_neg (by simp)]
    exact List.filter_eq_self.2 fun x hx => by simpa using (n1.1 x hx).symm
  refine ⟨hb, by unfold headD; rw [e1]; rfl, hf, r, by unfold remD; rw [hf, hd], rfl, h1.2, n1.2, rfl, ?_⟩
  cases r with
  | nil => simp [tens] at ht; simp [ofT, tens, ht.2]
  | cons c s =>
    rw [tens] at ht
    simp only [List.head?_cons] at ht
    by_cases e : b.tn = c.tn
    · rw [if_pos e] at ht
      rw [if_neg, ht]
      unfold ofT
      rw [List.filter_cons_of_pos (by simp [← hb, e])]
      exact List.cons_ne_nil _ _
    · rw [if_neg e] at ht
      rw [if_pos, (List.cons.inj ht).2]
      refine List.filter_eq_nil_iff.2 fun x hx => ?_
      have hbc : bytesBefore b.tn c.tn = true := by
        have := h1.1 c (List.mem_cons_self ..)
        unfold bf at this
        rwa [if_neg e] at this
      intro q
      have hxt : x.tn = t := by simpa using q
      rcases List.mem_cons.1 hx with rfl | hx
      · exact e (hb.trans hxt.symm)
      · have h2 := (List.pairwise_cons.1 h1.2).1 x hx
        unfold bf at h2
        rw [if_neg (fun q => e (hb.trans (hxt.symm.trans q.symm))), hxt, ← hb] at h2
        exact bb_asym hbc h2
theorem em_end {D : List J} {t : List UInt8} {T : List (List UInt8)} (h : Em D t [] T) : headD D t = (jz, 3) ∧ tens D = T := by
  obtain ⟨hs, hn, ho, ht⟩ := h
  exact ⟨by unfold headD; rw [ho]; rfl, by simpa using ht⟩
theorem tens_nil {D : List J} (h : tens D = []) : D = [] := by
  cases D with
  | nil => rfl
  | cons a r =>
    have : a.tn ∈ tens (a :: r) := mem_tens.2 ⟨a, List.mem_cons_self .., rfl⟩
    rw [h] at this
    cases this
theorem ofT_jl {D : List J} (hs : SJ D) {t : List UInt8} {k : Nat} {a b : J} (ha : (ofT t D)[k]? = some a) (hb : (ofT t D)[k + 1]? = some b) : jl a b = true := by
  have hp : SJ (ofT t D) := List.Pairwise.filter _ hs
  obtain ⟨l1, e1⟩ := List.getElem?_eq_some_iff.1 ha
  obtain ⟨l2, e2⟩ := List.getElem?_eq_some_iff.1 hb
  have := List.pairwise_iff_getElem.1 hp k (k + 1) l1 l2 (by omega)
  rw [e1, e2] at this
  have t1 : a.tn = t := by have := (List.mem_filter.1 (List.mem_of_getElem? ha)).2; simpa using this
  have t2 : b.tn = t := by have := (List.mem_filter.1 (List.mem_of_getElem? hb)).2; simpa using this
  unfold bf at this
  rwa [if_pos (t1.trans t2.symm)] at this
theorem tens_lt {D : List J} (hs : SJ D) {i : Nat} {x y : List UInt8} (hx : (tens D)[i]? = some x) (hy : (tens D)[i + 1]? = some y) : bytesBefore x y = true := by
  obtain ⟨l1, e1⟩ := List.getElem?_eq_some_iff.1 hx
  obtain ⟨l2, e2⟩ := List.getElem?_eq_some_iff.1 hy
  have := List.pairwise_iff_getElem.1 (srt_tens hs) i (i + 1) l1 l2 (by omega)
  rwa [e1, e2] at this
end Go.Proofs.Ythlbeofonbbbdaa

namespace Go.Proofs.Ythlbeofonbbbdaa
open Go.RowKit Go.Maps Go.WideMaps

/-- a head's priority -/
def hdP (D : List J) (t : List UInt8) : Int := (headD D t).1.pr
/-- the best of some heads -/
def IsM (D : List J) (T : List (List UInt8)) (m : Int) : Prop := 0 ≤ m ∧ (∀ t ∈ T, hdP D t ≤ m) ∧ (m = 0 ∨ ∃ t ∈ T, hdP D t = m)
/-- the best of all -/
def IsBest (D : List J) (m : Int) : Prop := 0 ≤ m ∧ (∀ a ∈ D, a.pr ≤ m) ∧ (m = 0 ∨ ∃ a ∈ D, a.pr = m)
def tops (D : List J) (T : List (List UInt8)) (m : Int) : List (List UInt8) := T.filter fun t => decide (hdP D t = m)
theorem IsBest.one {D : List J} {m m' : Int} (h : IsBest D m) (h' : IsBest D m') : m = m' := by
  obtain ⟨a1, a2, a3⟩ := h
  obtain ⟨b1, b2, b3⟩ := h'
  rcases a3 with a3 | ⟨a, ha, a3⟩ <;> rcases b3 with b3 | ⟨b, hb, b3⟩
  · omega
  · have := a2 b hb; omega
  · have := b2 a ha; omega
  · have := a2 b hb; have := b2 a ha; omega
theorem top_of {D : List J} (hs : SJ D) {t : List UInt8} (ht : t ∈ tens D) : ∃ a ∈ D, a.tn = t ∧ headD D t = (a, 0) ∧ ∀ b ∈ D, b.tn = t → b.pr ≤ a.pr := by
  obtain ⟨b, hb, rfl⟩ := mem_tens.1 ht
  have hb' : b ∈ ofT b.tn D := List.mem_filter.2 ⟨hb, by simp⟩
  cases ho : ofT b.tn D with
  | nil => rw [ho] at hb'; cases hb'
  | cons a r =>
    have ha : a ∈ ofT b.tn D := by rw [ho]; exact List.mem_cons_self ..
    obtain ⟨ha1, ha2⟩ := List.mem_filter.1 ha
    have ha3 : a.tn = b.tn := by simpa using ha2
    refine ⟨a, ha1, ha3, by unfold headD; rw [ho]; rfl, fun c hc hct => ?_⟩
    have hc' : c ∈ ofT b.tn D := List.mem_filter.2 ⟨hc, by simp [hct]⟩
    rw [ho] at hc'
    rcases List.mem_cons.1 hc' with rfl | hc''
    · exact Int.le_refl _
    · have hp : SJ (ofT b.tn D) := List.Pairwise.filter _ hs
      rw [ho] at hp
      have := (List.pairwise_cons.1 hp).1 c hc''
      unfold bf at this
      rw [if_pos (ha3.trans hct.symm)] at this
      unfold jl at this
      simp only [Bool.or_eq_true, decide_eq_true_eq, Bool.and_eq_true] at this
      omega
theorem IsM.best {D : List J} (hs : SJ D) {m : Int} (h : IsM D (tens D) m) : IsBest D m := by
  obtain ⟨h1, h2, h3⟩ := h
  refine ⟨h1, fun a ha => ?_, h3.imp id fun ⟨t, ht, e⟩ => ?_⟩
  · have ht : a.tn ∈ tens D := mem_tens.2 ⟨a, ha, rfl⟩
    obtain ⟨b, hb, e1, e2, e3⟩ := top_of hs ht
    have q1 := h2 _ ht
    unfold hdP at q1
    rw [e2] at q1
    have q2 : b.pr ≤ m := q1
    have q3 := e3 a ha rfl
    omega
  · obtain ⟨b, hb, e1, e2, e3⟩ := top_of hs ht
    unfold hdP at e
    rw [e2] at e
    exact ⟨b, hb, e⟩
theorem IsM.up {D : List J} {T : List (List UInt8)} {m : Int} {t : List UInt8} (h : IsM D T m) (hg : m < hdP D t) : IsM D (T ++ [t]) (hdP D t) ∧ tops D (T ++ [t]) (hdP D t) = [t] := by
  obtain ⟨h1, h2, h3⟩ := h
  refine ⟨⟨by omega, fun u hu => ?_, .inr ⟨t, by simp, rfl⟩⟩, ?_⟩
  · rcases List.mem_append.1 hu with q | q
    · have := h2 u q; omega
    · rw [List.mem_singleton.1 q]; exact Int.le_refl _
  · unfold tops
    rw [List.filter_append, List.filter_eq_nil_iff.2 fun u hu => by have := h2 u hu; simp; omega]
    simp
theorem IsM.on {D : List J} {T : List (List UInt8)} {m : Int} {t : List UInt8} (h : IsM D T m) (hg : hdP D t ≤ m) : IsM D (T ++ [t]) m ∧ tops D (T ++ [t]) m = tops D T m ++ (if hdP D t = m then [t] else []) := by
  obtain ⟨h1, h2, h3⟩ := h
  refine ⟨⟨h1, fun u hu => ?_, h3.imp id fun ⟨u, hu, e⟩ => ⟨u, List.mem_append_left _ hu, e⟩⟩, ?_⟩
  · rcases List.mem_append.1 hu with q | q
    · exact h2 u q
    · rw [List.mem_singleton.1 q]; exact hg
  · unfold tops
    rw [List.filter_append]
    by_cases e : hdP D t = m <;> simp [e]
theorem info9 : (Try.prog.info? 9).map (fun i => (i.zero, i.size, i.bytes)) = some (some (.string ⟨#[]⟩), 1, 16) := by kernel_rfl
set_option maxHeartbeats 4000000 in
set_option maxRecDepth 100000 in
theorem top_raw (w : World) (pb n : Nat) (D : List J) (T : List (List UInt8)) (hT : T = tens D) (hs : Hid (SJ D)) (hn : T.length = n) (hn1 : n ≤ 1000) (H13 : Hid (Calls Try.prog 13 #[.pointer (some ⟨pb, 0, none⟩)] w fun e w' => ∃ p c', e = .returned (.slice p n c') ∧ Hid (SR w.heap.size w' (.slice p n c') T ∧ Below w.heap.size w w')))
    (H15 : Hid (∀ W t, t ∈ T → Below w.heap.size w W → Calls Try.prog 15 #[.pointer (some ⟨pb, 0, none⟩), .string ⟨⟨t⟩⟩] W fun e w' => e = ansJ (headD D t) ∧ Below W.heap.size W w')) :
    Calls Try.prog 17 #[.pointer (some ⟨pb, 0, none⟩)] w fun e w' => ∃ m p l c, e = .returned (.tuple #[.int .i64 m, .slice p l c]) ∧ Hid (IsBest D m ∧ SR w.heap.size w' (.slice p l c) (tops D T m) ∧ Below w.heap.size w w') := by
  have HT : Hid (T = tens D ∧ T.length = n) := ⟨hT, hn⟩
  clear hT hn
  go_enter Try.func17, Try.ntmps17
  go_upto_region 4 with (go_at_call 13; refine H13.out.mono ?_; rintro e W1 ⟨p0, c0, rfl, h1⟩)
  clear H13
  go_loopw [4, 5, 13] (fun y v x wr => ∃ (k l : Nat) (m : Int) (p : Option Addr) (c : Nat), y = .int .i64 m ∧ v = .slice p l c ∧ x = .int .i64 k ∧ k ≤ n ∧ l ≤ k ∧ Hid (IsM D (T.take k) m ∧ SR W1.heap.size wr (.slice p l c) (tops D (T.take k) m) ∧ Below W1.heap.size W1 wr)) (fun _ _ x _ => n - (intOf x).toNat)
  case atStart => exact ⟨0, 0, 0, none, 0, rfl, rfl, rfl, Nat.zero_le _, Nat.le_refl _, ⟨Int.le_refl _, (fun _ h => by simp at h), .inl rfl⟩, GRow.nil _ _ _ _ _, Below.refl _ _⟩
  case round =>
    obtain ⟨k, l, m, p, c, rfl, rfl, rfl, hk, hlk, HI⟩ := hrel
    by_cases hkn : k < n
    · obtain ⟨t, ht⟩ : ∃ t, T[k]? = some t := ⟨_, List.getElem?_eq_getElem (by have := HT.out.2; omega)⟩
      have htm : t ∈ T := List.mem_of_getElem? ht
      obtain ⟨a, ha, e1, e2, -⟩ := top_of hs.out (by rw [← HT.out.1]; exact htm)
      obtain ⟨g, rfl, hg⟩ := h1.out.1.at sC_len ht
      have y0 := keep1c' HI.out.2.2 (hg 0 _ rfl)
      simp only [Nat.mul_one, Nat.add_zero] at y0
      have BW : Hid (Below w.heap.size w wr) := h1.out.2.trans (HI.out.2.2.mono h1.out.2.size)
      have X15 : Hid (Calls Try.prog 15 #[.pointer (some ⟨pb, 0, none⟩), .string ⟨⟨t⟩⟩] wr fun e w' => e = .returned (.tuple #[.agg #[.int .i64 a.job, .string ⟨⟨a.tn⟩⟩, .int .i64 a.pr], .int .i64 0]) ∧ Hid (Below wr.heap.size wr w')) := by
        have := H15.out wr t htm BW.out
        rw [e2] at this
        exact this
      have hpa : Hid (hdP D t = a.pr) := by show (headD D t).1.pr = _; rw [e2]
      have HT1 : Hid (T.take (k + 1) = T.take k ++ [t]) := by show _ = _; rw [List.take_add_one, ht]; rfl
      have k1 : (k : Int) < (n : Int) := by omega
      have k2 : decide ((k : Int) < (n : Int)) = true := decide_eq_true k1
      clear ht htm ha e1 e2 hg H15
      obtain ⟨aj, at', ap⟩ := a
      simp only [] at X15 hpa
      go_upto_region 7 with (go_at_call 15; refine X15.out.mono ?_; rintro e w2 ⟨rfl, b2⟩)
      have B3 : Hid (Below wr.heap.size wr (w2.alloc (.cells #[.int .i64 aj, .string ⟨⟨at'⟩⟩, .int .i64 ap] 32))) := b2.out.alloc b2.out.size _
      obtain ⟨-, -, n2⟩ := c3 (new0 (w := w2) (o := .cells #[.int .i64 aj, .string ⟨⟨at'⟩⟩, .int .i64 ap] 32))
      have n3 : w2.heap.size < (w2.alloc (.cells #[.int .i64 aj, .string ⟨⟨at'⟩⟩, .int .i64 ap] 32)).heap.size := by simp
      clear b2 X15
      generalize w2.alloc (.cells #[.int .i64 aj, .string ⟨⟨at'⟩⟩, .int .i64 ap] 32) = W3 at *
      generalize w2.heap.size = bb at *
      have B4 : Hid (Below W1.heap.size W1 W3) := HI.out.2.2.trans (B3.out.mono HI.out.2.2.size)
      have R4 : Hid (SR W1.heap.size W3 (.slice p l c) (tops D (T.take k) m)) := HI.out.2.1.below B3.out
      have HM : Hid (IsM D (T.take k) m) := HI.out.1
      have B5 : Hid (Below W1.heap.size W1 (W3.alloc (.cells #[.string ⟨⟨t⟩⟩] 9))) := B4.out.alloc B4.out.size _
      have Z5 : Hid (W1.heap.size ≤ (W3.alloc (.cells #[.string ⟨⟨t⟩⟩] 9)).heap.size) := B5.out.size
      have RR : Hid (RowV (W3.alloc (.cells #[.string ⟨⟨t⟩⟩] 9)) W3.heap.size 0 ([t].flatMap sC)) := row_one new0 rfl
      have R5 : Hid (SR W1.heap.size (W3.alloc (.cells #[.string ⟨⟨t⟩⟩] 9)) (.slice p l c) (tops D (T.take k) m)) := R4.out.below ((Below.refl _ W3).alloc (Nat.le_refl _) _)
      have e9 : Hid (l + 1 ≤ maxLen) := by show _ ≤ _; unfold maxLen; omega
      have e8 : Hid ((l + 1) * 16 ≤ 140737488355328) := by show _ ≤ _; omega
      have f9 : Hid (0 + 1 ≤ maxLen) := by show _ ≤ _; unfold maxLen; omega
      have f8 : Hid ((0 + 1) * 16 ≤ 140737488355328) := by show _ ≤ _; omega
      clear HI
      by_cases hgt : m < ap
      · have g1 : decide (m < ap) = true := decide_eq_true hgt
        have N5 : Hid (SR W1.heap.size (W3.alloc (.cells #[.string ⟨⟨t⟩⟩] 9)) (.slice none 0 0) []) := GRow.nil _ _ _ _ _
        have UP := HM.out.up (t := t) (by rw [hpa.out]; exact hgt)
        rw [hpa.out, ← HT1.out] at UP
        have UPH : Hid _ := UP
        clear UP
        go_wp2_with (first
          | (at_builtin; refine append_g (B := W1.heap.size) sC_len sC_one Try.underlying40 info9 rfl (by decide) rfl _ _ rfl none 0 0 _ rfl N5.out Z5.out W3.heap.size 0 1 1 [t] rfl rfl RR.out f9.out f8.out ?_; intro p3 c3 w3 hr3 hb3)
          | go_in)
        exact ⟨⟨k + 1, 1, ap, p3, c3, rfl, rfl, by simp, hkn, by omega, UPH.out.1, by rw [UPH.out.2]; exact hr3, B5.out.trans hb3⟩, by simp [intOf]; omega⟩
      · have g1 : decide (m < ap) = false := decide_eq_false hgt
        have ON := HM.out.on (t := t) (by rw [hpa.out]; omega)
        rw [hpa.out, ← HT1.out] at ON
        have ONH : Hid _ := ON
        clear ON
        by_cases hge : ap = m
        · have ONK : Hid (tops D (T.take (k + 1)) m = tops D (T.take k) m ++ [t]) := by have := ONH.out.2; rw [if_pos hge] at this; exact this
          have ONI := ONH.out.1
          have ONJ : Hid _ := ONI
          clear ONI ONH
          have g2 : (ap == m) = true := by simp [hge]
          have g3 : decide (ap = m) = true := decide_eq_true hge
          subst hge
          go_wp2_with (first
            | (at_builtin; refine append_g (B := W1.heap.size) sC_len sC_one Try.underlying40 info9 rfl (by decide) rfl _ _ rfl p l c _ rfl R5.out Z5.out W3.heap.size 0 1 1 [t] rfl rfl RR.out e9.out e8.out ?_; intro p3 c3 w3 hr3 hb3)
            | go_in)
          exact ⟨⟨k + 1, l + 1, ap, p3, c3, rfl, rfl, by simp, hkn, by omega, ONJ.out, by rw [ONK.out]; exact hr3, B5.out.trans hb3⟩, by simp [intOf]; omega⟩
        · have ONK : Hid (tops D (T.take (k + 1)) m = tops D (T.take k) m) := by have := ONH.out.2; rw [if_neg hge, List.append_nil] at this; exact this
          have ONI := ONH.out.1
          have ONJ : Hid _ := ONI
          clear ONI ONH
          have g2 : (ap == m) = false := by simp [hge]
          have g3 : decide (ap = m) = false := decide_eq_false hge
          go_wp2_with fail
          exact ⟨⟨k + 1, l, m, p, c, rfl, rfl, by simp, hkn, by omega, ONJ.out, by rw [ONK.out]; exact R4.out, B4.out⟩, by simp [intOf]; omega⟩
    · have k1 : ¬ (k : Int) < (n : Int) := by omega
      have k2 : decide ((k : Int) < (n : Int)) = false := decide_eq_false k1
      have HF : Hid (IsBest D m ∧ SR w.heap.size wr (.slice p l c) (tops D T m) ∧ Below w.heap.size w wr) := by
        have e1 : T.take k = T := List.take_of_length_le (by have := HT.out.2; omega)
        have h2 := HI.out
        rw [e1] at h2
        refine ⟨IsM.best hs.out (by rw [← HT.out.1]; exact h2.1), gr_base h2.2.1 h1.out.2.size, h1.out.2.trans (h2.2.2.mono h1.out.2.size)⟩
      clear HI
      go_wp2_with fail
      go_ret2
      exact ⟨m, p, l, c, rfl, HF.out⟩
theorem top_any {w : World} {S : Nat → Prop} {pb N : Nat} {D : List J} (h : Que w S pb D N) (hz : ∀ y ∈ D, y.tn.length ≤ 281474976710656) :
    Calls Try.prog 17 #[.pointer (some ⟨pb, 0, none⟩)] w fun e w' => ∃ m p l c, e = .returned (.tuple #[.int .i64 m, .slice p l c]) ∧ Hid (IsBest D m ∧ SR w.heap.size w' (.slice p l c) (tops D (tens D) m) ∧ Below w.heap.size w w') := by
  obtain ⟨⟨ow, mw, mh, l, q, h1, h2, h3, h4⟩, h5⟩ := id h
  have hf := h1.few
  have ht := h1.tens h2 h3
  refine top_raw w pb (tens D).length D (tens D) rfl h3 rfl (by rw [← ht, List.length_map]; omega) (tens_any h) fun W t ht' b => ?_
  obtain ⟨a, ha, rfl⟩ := mem_tens.1 ht'
  exact qhead_any (h.keepB b) ⟨⟨a.tn⟩⟩ (by have := hz a ha; show a.tn.length ≤ _; unfold maxLen; omega)
end Go.Proofs.Ythlbeofonbbbdaa

namespace Go.Proofs.Ythlbeofonbbbdaa
open Go.RowKit Go.Maps Go.WideMaps

def NX : Nat → Option Obj := fun _ => none
theorem IsBest.push {D : List J} {x : J} {m : Int} (h : IsBest D m) (hx : 0 ≤ x.pr) : IsBest (iJ x D) (max m x.pr) := by
  obtain ⟨h1, h2, h3⟩ := h
  have mem : ∀ a, a ∈ iJ x D ↔ a = x ∨ a ∈ D := fun a => by rw [(iJ_perm x D).mem_iff, List.mem_cons]
  refine ⟨by omega, fun a ha => ?_, ?_⟩
  · rcases (mem a).1 ha with rfl | q
    · omega
    · have := h2 a q; omega
  · by_cases e : m ≤ x.pr
    · exact .inr ⟨x, (mem x).2 (.inl rfl), by omega⟩
    · rcases h3 with h3 | ⟨a, ha, h3⟩
      · omega
      · exact .inr ⟨a, (mem a).2 (.inr ha), by omega⟩
theorem tops_at {D : List J} {T : List (List UInt8)} {m : Int} {k : Nat} {t : List UInt8} (hk : T[k]? = some t) (ht : hdP D t = m) : (tops D T m)[(tops D (T.take k) m).length]? = some t ∧ (tops D (T.take k) m).length < (tops D T m).length ∧ (tops D (T.take (k + 1)) m).length = (tops D (T.take k) m).length + 1 := by
  have e1 : T.take (k + 1) = T.take k ++ [t] := by rw [List.take_add_one, hk]; rfl
  have e2 : tops D (T.take (k + 1)) m = tops D (T.take k) m ++ [t] := by
    unfold tops
    rw [e1, List.filter_append]
    simp [ht]
  have e3 : tops D T m = tops D (T.take (k + 1)) m ++ tops D (T.drop (k + 1)) m := by
    unfold tops
    rw [← List.filter_append, List.take_append_drop]
  refine ⟨?_, ?_, by rw [e2]; simp⟩
  · rw [e3, e2]; simp
  · rw [e3, e2]; simp
theorem tops_no {D : List J} {T : List (List UInt8)} {m : Int} {k : Nat} {t : List UInt8} (hk : T[k]? = some t) (ht : hdP D t ≠ m) : (tops D (T.take (k + 1)) m).length = (tops D (T.take k) m).length := by
  have e1 : T.take (k + 1) = T.take k ++ [t] := by rw [List.take_add_one, hk]; rfl
  unfold tops
  rw [e1, List.filter_append]
  simp [ht]
theorem push_ok {D : List J} {x : J} (hp : (pushD D x).1 = 0) : x.ok = true := by
  cases e : x.ok with
  | true => rfl
  | false => unfold pushD at hp; rw [e] at hp; simp at hp
set_option maxHeartbeats 8000000 in
set_option maxRecDepth 100000 in
theorem top_law (q : Option Addr) (n c : Nat) (L : List J) (w : World) (hn : n = L.length) (hr : WArg w q L) (hm : n ≤ 9223372036854775807) :
    Calls Try.prog 5 #[.slice q n c] w fun e w' => e = .returned (.bool true) ∧ Below w.heap.size w w' := by
  have HA : Hid (∀ W, Calls Try.prog 8 #[] W fun e w' => e = .returned (.bool true) ∧ Hid (Below W.heap.size W w')) := awakeQ
  have HN : Hid (∀ W, Calls Try.prog 9 #[] W fun e w' => e = .returned (.pointer (some ⟨W.heap.size, 0, none⟩)) ∧ w' = W.alloc (.cells #[.map none, .map none] 54 (0, 0))) := newQ_any
  have HR : Hid (WArg w q L ∧ n = L.length) := ⟨hr, hn⟩
  clear hr hn
  by_cases h20 : 300 < n
  · have g1 : (300 : Int) < (n : Int) := by omega
    have g2 : decide ((300 : Int) < (n : Int)) = true := decide_eq_true g1
    clear HN HR
    go_enter Try.func5, Try.ntmps5
    go_wp2_with (first
      | (go_at_call 8; have _ := b1; refine (HA.out _).mono ?_; rintro e w3 ⟨rfl, b3⟩)
      | (go_at_call 8; refine (HA.out _).mono ?_; rintro e w1 ⟨rfl, b1⟩))
    go_ret
    exact ⟨rfl, b1.out.trans (b3.out.mono b1.out.size)⟩
  have g20 : ¬ (300 : Int) < (n : Int) := by omega
  have g20' : decide ((300 : Int) < (n : Int)) = false := decide_eq_false g20
  have h300 : n ≤ 300 := by omega
  clear hm
  go_enter Try.func5, Try.ntmps5
  go_upto_region 3 with (go_at_call 8; refine (HA.out _).mono ?_; rintro e w1 ⟨rfl, b1⟩)
  clear HA
  go_upto_region 4 with (go_at_call 9; refine (HN.out _).mono ?_; rintro e W0 ⟨rfl, h3⟩; obtain rfl := h3.symm)
  have HL0 : Hid (LQ w (w1.alloc (.cells #[.map none, .map none] 54 (0, 0))) NX w1.heap.size [] 0) := l_new b1.out fun k o e => by cases e
  clear HN b1 h20 g20' h3
  generalize w1.alloc (.cells #[.map none, .map none] 54 (0, 0)) = W0 at *
  generalize w1.heap.size = pb at *
  go_wp2_with fail
  go_loopw [4, 5] (fun y x wr => ∃ (i : Nat) (m : Int), y = .int .i64 m ∧ x = .int .i64 i ∧ i ≤ n ∧ Hid (∃ D, LQ w wr NX pb D i ∧ IsBest D m)) (fun _ x _ => n - (intOf x).toNat)
  case atStart => exact ⟨0, 0, rfl, rfl, Nat.zero_le _, _, HL0.out, Int.le_refl _, (fun _ h => nomatch h), .inl rfl⟩
  case round =>
    obtain ⟨i, m, rfl, rfl, hin, HI⟩ := hrel
    clear HL0
    by_cases hi : i < n
    · have i1 : (i : Int) < (n : Int) := by omega
      have i2 : decide ((i : Int) < (n : Int)) = true := decide_eq_true i1
      obtain ⟨v, hv⟩ : ∃ v, L[i]? = some v := ⟨_, List.getElem?_eq_getElem (by have := HR.out.2; omega)⟩
      obtain ⟨D, hD, hM⟩ := HI.out
      obtain ⟨⟨g, f, rfl, h0, h1, h2⟩, hz⟩ := HR.out.1 i v hv
      have d0 := keep1c' hD.bel h0
      have d1 := keep1c' hD.bel h1
      have d2 := keep1c' hD.bel h2
      have SS : Hid (∀ W, Below w.heap.size w W → W.cell? ⟨g, f + i * 3 + 2, none⟩ = some (.int .i64 v.pr)) := fun W b => keep1c' b h2
      obtain ⟨r, hr⟩ : ∃ r, r = (pushD D v).1 := ⟨_, rfl⟩
      have H12 : Hid (Calls Try.prog 12 #[.pointer (some ⟨pb, 0, none⟩), .agg #[.int .i64 v.job, .string ⟨⟨v.tn⟩⟩, .int .i64 v.pr]] wr fun e w' => e = .returned (.int .i64 r) ∧ Hid (LQ w w' NX pb (pushD D v).2 (i + 1))) := by rw [hr]; exact l_push hD hz (by omega)
      have HSN : Hid (SJ D ∧ NJ D ∧ IsBest D m) := ⟨hD.sj.1, hD.sj.2.1, hM⟩
      by_cases hp : r = 0
      · have HE : Hid (∀ W, LQ w W NX pb (pushD D v).2 (i + 1) → ∃ D, LQ w W NX pb D (i + 1) ∧ IsBest D (max m v.pr)) := fun W h => by
          have hp' : (pushD D v).1 = 0 := by rw [← hr]; exact hp
          have T := took HSN.out.1 HSN.out.2.1 hp'
          have := (ok_pr (push_ok hp')).2.2.1
          exact ⟨_, h, by rw [T.p]; exact HSN.out.2.2.push this⟩
        clear hr hD hM hv HI h0 h1 h2
        subst hp
        obtain ⟨vj, vt, vp⟩ := v
        simp only [] at d0 d1 d2 SS HE
        go_wp2_with (first
          | (go_at_call 12; refine H12.out.mono ?_; rintro e w4 ⟨rfl, h4⟩; have d4 := SS.out _ h4.out.bel)
          | go_in)
        exact ⟨⟨i + 1, max m vp, by first | rfl | (congr 1; omega), by simp, by omega, HE.out _ h4.out⟩, by simp only [intOf]; omega⟩
      · have HE : Hid (∀ W, LQ w W NX pb (pushD D v).2 (i + 1) → ∃ D, LQ w W NX pb D (i + 1) ∧ IsBest D m) := fun W h => by
          rw [took_not (by rw [← hr]; exact hp)] at h
          exact ⟨_, h, HSN.out.2.2⟩
        have p2 : (r == 0) = false := by simpa using hp
        have p3 : decide (r = 0) = false := decide_eq_false hp
        clear hr hD hM hv HI h0 h1 h2
        obtain ⟨vj, vt, vp⟩ := v
        simp only [] at d0 d1 d2 SS HE
        go_wp2_with (go_at_call 12; refine H12.out.mono ?_; rintro e w4 ⟨rfl, h4⟩)
        exact ⟨⟨i + 1, m, rfl, by simp, by omega, HE.out _ h4.out⟩, by simp only [intOf]; omega⟩
    · have i1 : ¬ (i : Int) < (n : Int) := by omega
      have i2 : decide ((i : Int) < (n : Int)) = false := decide_eq_false i1
      obtain ⟨D, hD, hM⟩ := HI.out
      have HD : Hid (LQ w wr NX pb D i ∧ IsBest D m) := ⟨hD, hM⟩
      obtain ⟨T, hT⟩ : ∃ T, T = tens D := ⟨_, rfl⟩
      obtain ⟨tn, htn⟩ : ∃ tn, tn = (tens D).length := ⟨_, rfl⟩
      have htl : Hid (T.length = tn) := by rw [hT, htn]; rfl
      have htn1 : tn ≤ 101 := by
        obtain ⟨S, ⟨⟨ow, mw, mh, l, q, k1, k2, k3, k4⟩, k5⟩, -⟩ := hD.q
        rw [htn, ← k1.tens k2 k3, List.length_map]
        exact k1.few
      have H17 : Hid (Calls Try.prog 17 #[.pointer (some ⟨pb, 0, none⟩)] wr fun e w' => ∃ p l c, e = .returned (.tuple #[.int .i64 m, .slice p l c]) ∧ Hid (SR wr.heap.size w' (.slice p l c) (tops D T m) ∧ LQ w w' NX pb D i)) := by
        obtain ⟨S, k1, -⟩ := hD.q
        refine (top_any k1 hD.sm).mono ?_
        rintro e w' ⟨m', p, l, c, rfl, hh⟩
        have e1 := hh.out.1.one hM
        subst e1
        rw [hT]
        exact ⟨p, l, c, rfl, hh.out.2.1, hD.below hh.out.2.2⟩
      have H13 : Hid (∀ W, LQ w W NX pb D i → Calls Try.prog 13 #[.pointer (some ⟨pb, 0, none⟩)] W fun e w' => ∃ p c, e = .returned (.slice p tn c) ∧ Hid (SR W.heap.size w' (.slice p tn c) T ∧ Below W.heap.size W w')) := fun W h => by
        obtain ⟨S, k1, -⟩ := h.q
        rw [hT, htn]
        exact tens_any k1
      have H15 : Hid (∀ W t, t ∈ T → LQ w W NX pb D i → ∃ a : J, hdP D t = a.pr ∧ Hid (Calls Try.prog 15 #[.pointer (some ⟨pb, 0, none⟩), .string ⟨⟨t⟩⟩] W fun e w' => e = .returned (.tuple #[.agg #[.int .i64 a.job, .string ⟨⟨a.tn⟩⟩, .int .i64 a.pr], .int .i64 0]) ∧ Hid (Below W.heap.size W w'))) := fun W t ht h => by
        obtain ⟨S, k1, -⟩ := h.q
        obtain ⟨a, ha, e1, e2, -⟩ := top_of h.sj.1 (by rw [← hT]; exact ht)
        refine ⟨a, by unfold hdP; rw [e2], ?_⟩
        have := qhead_any k1 ⟨⟨t⟩⟩ (by have := h.sm a ha; rw [e1] at this; show t.length ≤ _; unfold maxLen; omega)
        rw [show (⟨⟨t⟩⟩ : ByteArray).data.toList = t from rfl, e2] at this
        exact this
      clear hD hM HI HR hT htn
      go_upto_region 11 with (go_at_call 17; refine H17.out.mono ?_; rintro e W1 ⟨p1, l1, c1, rfl, h1⟩)
      go_upto_region 12 with (go_at_call 13; refine (H13.out _ h1.out.2).mono ?_; rintro e W2 ⟨p2, c2, rfl, h2⟩)
      have HQ2 : Hid (LQ w W2 NX pb D i) := h1.out.2.below h2.out.2
      obtain ⟨base1, R1⟩ : ∃ b, Hid (SR b W2 (.slice p1 l1 c1) (tops D T m)) := ⟨_, h1.out.1.below h2.out.2⟩
      obtain ⟨base2, R2⟩ : ∃ b, Hid (SR b W2 (.slice p2 tn c2) T) := ⟨_, h2.out.1⟩
      have hl1 : Hid (l1 = (tops D T m).length) := R1.out.len
      have hl1b : l1 ≤ 101 := by
        have := List.length_filter_le (fun t => decide (hdP D t = m)) T
        have e1 := hl1.out
        have e2 := htl.out
        unfold tops at e1
        omega
      clear H17 H13 h1 h2 HD
      go_wp2_with fail
      go_loopw [9, 10] (fun y x wr => ∃ (k j : Nat), y = .int .i64 j ∧ x = .int .i64 k ∧ k ≤ tn ∧ j ≤ 101 ∧ Hid (j = (tops D (T.take k) m).length ∧ Below W2.heap.size W2 wr)) (fun _ x _ => tn - (intOf x).toNat)
      case atStart => exact ⟨0, 0, rfl, rfl, Nat.zero_le _, by omega, rfl, Below.refl _ _⟩
      case round =>
        obtain ⟨k, j, rfl, rfl, hk, hj, HK⟩ := hrel
        by_cases hkn : k < tn
        · obtain ⟨t, ht⟩ : ∃ t, T[k]? = some t := ⟨_, List.getElem?_eq_getElem (by have := htl.out; omega)⟩
          obtain ⟨a, ha, HX15⟩ := H15.out wr t (List.mem_of_getElem? ht) (HQ2.out.below HK.out.2)
          obtain ⟨g2, rfl, hg2⟩ := R2.out.at sC_len ht
          have y0 := keep1c' HK.out.2 (hg2 0 _ rfl)
          simp only [Nat.mul_one, Nat.add_zero] at y0
          have k1 : (k : Int) < (tn : Int) := by omega
          have k2 : decide ((k : Int) < (tn : Int)) = true := decide_eq_true k1
          clear H15
          by_cases hpm : a.pr = m
          · obtain ⟨e1, e2, e3⟩ := tops_at ht (ha.trans hpm)
            rw [← HK.out.1] at e1 e2 e3
            obtain ⟨g1, rfl, hg1⟩ := R1.out.at sC_len e1
            have z0 := hg1 0 _ rfl
            simp only [Nat.mul_one, Nat.add_zero] at z0
            have hjl : j < l1 := by rw [hl1.out]; exact e2
            have j1 : ¬ (l1 : Int) ≤ (j : Int) := by omega
            have j2 : decide ((l1 : Int) ≤ (j : Int)) = false := decide_eq_false j1
            have E3 : Hid ((tops D (T.take (k + 1)) m).length = j + 1) := e3
            have y0h : Hid (W2.cell? ⟨g2, k, none⟩ = some (.string ⟨⟨t⟩⟩) ∧ W2.cell? ⟨g1, j, none⟩ = some (.string ⟨⟨t⟩⟩)) := ⟨by have := hg2 0 _ rfl; simpa using this, z0⟩
            clear e1 e2 e3 hg1 hg2 ht ha z0
            obtain ⟨aj, at', ap⟩ := a
            simp only [] at hpm HX15
            subst hpm
            go_upto_region 17 with (go_at_call 15; refine HX15.out.mono ?_; rintro e w3 ⟨rfl, b3⟩)
            have B4 : Hid (Below W2.heap.size W2 (w3.alloc (.cells #[.int .i64 aj, .string ⟨⟨at'⟩⟩, .int .i64 ap] 32))) := HK.out.2.trans ((b3.out.alloc b3.out.size _).mono HK.out.2.size)
            obtain ⟨-, -, n2⟩ := c3 (new0 (w := w3) (o := .cells #[.int .i64 aj, .string ⟨⟨at'⟩⟩, .int .i64 ap] 32))
            have n3 : w3.heap.size < (w3.alloc (.cells #[.int .i64 aj, .string ⟨⟨at'⟩⟩, .int .i64 ap] 32)).heap.size := by simp
            have u0 := keep1c' B4.out y0h.out.1
            have u1 := keep1c' B4.out y0h.out.2
            clear b3 HX15 y0
            generalize w3.alloc (.cells #[.int .i64 aj, .string ⟨⟨at'⟩⟩, .int .i64 ap] 32) = W4 at *
            generalize w3.heap.size = bb at *
            go_upto_region 20 with fail
            go_quiet (fail)
            go_wp2_with fail
            exact ⟨⟨k + 1, j + 1, by simp, by simp, hkn, by omega, E3.out.symm, below_drewN B4.out nq⟩, by simp [intOf]; omega⟩
          · have e3 := tops_no ht (fun e => hpm (ha.symm.trans e))
            rw [← HK.out.1] at e3
            have E3 : Hid ((tops D (T.take (k + 1)) m).length = j) := e3
            have q2 : (a.pr == m) = false := by simpa using hpm
            have q3 : decide (a.pr = m) = false := decide_eq_false hpm
            clear e3 hg2 ht ha
            obtain ⟨aj, at', ap⟩ := a
            simp only [] at hpm HX15 q2 q3
            go_upto_region 17 with (go_at_call 15; refine HX15.out.mono ?_; rintro e w3 ⟨rfl, b3⟩)
            have B4 : Hid (Below W2.heap.size W2 (w3.alloc (.cells #[.int .i64 aj, .string ⟨⟨at'⟩⟩, .int .i64 ap] 32))) := HK.out.2.trans ((b3.out.alloc b3.out.size _).mono HK.out.2.size)
            obtain ⟨-, -, n2⟩ := c3 (new0 (w := w3) (o := .cells #[.int .i64 aj, .string ⟨⟨at'⟩⟩, .int .i64 ap] 32))
            have n3 : w3.heap.size < (w3.alloc (.cells #[.int .i64 aj, .string ⟨⟨at'⟩⟩, .int .i64 ap] 32)).heap.size := by simp
            clear b3 HX15 y0
            generalize w3.alloc (.cells #[.int .i64 aj, .string ⟨⟨at'⟩⟩, .int .i64 ap] 32) = W4 at *
            generalize w3.heap.size = bb at *
            go_wp2_with fail
            exact ⟨⟨k + 1, j, rfl, by simp, hkn, hj, E3.out.symm, B4.out⟩, by simp [intOf]; omega⟩
        · have k1 : ¬ (k : Int) < (tn : Int) := by omega
          have k2 : decide ((k : Int) < (tn : Int)) = false := decide_eq_false k1
          have hjl : j = l1 := by
            have e1 : T.take k = T := List.take_of_length_le (by have := htl.out; omega)
            have e2 := HK.out.1
            rw [e1, ← hl1.out] at e2
            exact e2
          subst hjl
          have HF : Hid (Below w.heap.size w wr) := HQ2.out.bel.trans (HK.out.2.mono HQ2.out.bel.size)
          clear HK H15
          go_wp2_with fail
          go_ret
          exact ⟨by simp, HF.out⟩
end Go.Proofs.Ythlbeofonbbbdaa
