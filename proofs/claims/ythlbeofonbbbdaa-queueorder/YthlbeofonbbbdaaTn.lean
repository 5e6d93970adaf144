/-
  Tenants.
-/
import Derived.Test.YthlbeofonbbbdaaIter
import Derived.Test.YthlbeofonbbbdaaBa
namespace Go.Proofs.Ythlbeofonbbbdaa
open Go.RowKit Go.Maps Go.WideMaps Go.Sort

theorem bb_lt : ∀ {a b : List UInt8}, bytesBefore a b = true → a < b
  | [], [], h => by simp [bytesBefore] at h
  | [], _ :: _, _ => List.nil_lt_cons _ _
  | _ :: _, [], h => by simp [bytesBefore] at h
  | x :: r, y :: s, h => by
    simp only [bytesBefore, Bool.or_eq_true, decide_eq_true_eq, Bool.and_eq_true, beq_iff_eq] at h
    rw [List.cons_lt_cons_iff]
    rcases h with h | ⟨h1, h2⟩
    · exact .inl h
    · exact .inr ⟨h1, bb_lt h2⟩
theorem names_sorted {l ss : List (List UInt8)} (hs : l.Pairwise fun x y => bytesBefore x y = true) (hp : ss.Perm l) : ss.mergeSort (fun x y => decide (x ≤ y)) = l := by
  have tr : ∀ a b c : List UInt8, leB a b = true → leB b c = true → leB a c = true := fun a b c h1 h2 => by simp only [leB, decide_eq_true_eq] at *; exact List.le_trans h1 h2
  have tot : ∀ a b : List UInt8, (leB a b || leB b a) = true := fun a b => by simp only [leB, Bool.or_eq_true, decide_eq_true_eq]; exact List.le_total a b
  refine List.Perm.eq_of_pairwise (le := fun a b => leB a b = true) (fun a b _ _ h1 h2 => ?_) (List.pairwise_mergeSort tr tot ss) ?_ ((List.mergeSort_perm ss leB).trans hp)
  · simp only [leB, decide_eq_true_eq] at h1 h2
    exact List.le_antisymm h1 h2
  · refine List.Pairwise.imp (fun {a b} hab => ?_) hs
    simp only [leB, decide_eq_true_eq]
    exact List.le_of_lt (bb_lt hab)
/-- a name's cell -/
def sC (s : List UInt8) : List Value := [.string ⟨⟨s⟩⟩]
theorem sC_len (s : List UInt8) : (sC s).length = 1 := rfl
theorem sC_one (s : List UInt8) : ∀ u ∈ sC s, u.oneCell' = true := by
  intro u hu
  rw [List.mem_singleton.1 hu]
  rfl
abbrev SR (b : Nat) (w : World) (v : Value) (L : List (List UInt8)) : Prop := GRow 9 1 sC b w v L
theorem mem_tens {t : List UInt8} : ∀ {D : List J}, t ∈ tens D ↔ ∃ a ∈ D, a.tn = t
  | [] => by simp [tens]
  | [a] => by simp [tens, eq_comm]
  | a :: b :: r => by
    have ih := mem_tens (t := t) (D := b :: r)
    rw [tens]
    simp only [List.head?_cons]
    split
    · rename_i e
      rw [ih]
      constructor
      · rintro ⟨c, hc, h⟩; exact ⟨c, List.mem_cons_of_mem _ hc, h⟩
      · rintro ⟨c, hc, h⟩
        rcases List.mem_cons.1 hc with rfl | hc
        · exact ⟨b, List.mem_cons_self .., e ▸ h⟩
        · exact ⟨c, hc, h⟩
    · rw [List.mem_cons, ih]
      constructor
      · rintro (h | ⟨c, hc, h⟩)
        · exact ⟨a, List.mem_cons_self .., h.symm⟩
        · exact ⟨c, List.mem_cons_of_mem _ hc, h⟩
      · rintro ⟨c, hc, h⟩
        rcases List.mem_cons.1 hc with rfl | hc
        · exact .inl h.symm
        · exact .inr ⟨c, hc, h⟩
theorem srt_tens : ∀ {D : List J}, SJ D → (tens D).Pairwise fun x y => bytesBefore x y = true
  | [], _ => List.Pairwise.nil
  | [a], _ => List.pairwise_singleton _ _
  | a :: b :: r, h => by
    have h1 := List.pairwise_cons.1 h
    have h2 := List.pairwise_cons.1 h1.2
    have ih := srt_tens (D := b :: r) h1.2
    rw [tens]
    simp only [List.head?_cons]
    split
    · exact ih
    · rename_i e
      have hab : bytesBefore a.tn b.tn = true := by
        have := h1.1 b (List.mem_cons_self ..)
        unfold bf at this
        rwa [if_neg e] at this
      refine List.pairwise_cons.2 ⟨fun t ht => ?_, ih⟩
      obtain ⟨c, hc, rfl⟩ := mem_tens.1 ht
      rcases List.mem_cons.1 hc with rfl | hc'
      · exact hab
      · have hac := h1.1 c hc
        unfold bf at hac
        by_cases e2 : a.tn = c.tn
        · have hbc := h2.1 c hc'
          unfold bf at hbc
          rw [if_neg (fun e3 => e (e2.trans e3.symm)), ← e2] at hbc
          exact (bb_asym hab hbc).elim
        · rwa [if_neg e2] at hac
theorem srt_uniq : ∀ {l l' : List (List UInt8)}, (l.Pairwise fun x y => bytesBefore x y = true) → (l'.Pairwise fun x y => bytesBefore x y = true) → (∀ t, t ∈ l ↔ t ∈ l') → l = l'
  | [], [], _, _, _ => rfl
  | [], b :: s, _, _, h => absurd ((h b).2 (List.mem_cons_self ..)) (by simp)
  | a :: r, [], _, _, h => absurd ((h a).1 (List.mem_cons_self ..)) (by simp)
  | a :: r, b :: s, h1, h2, h => by
    have k1 := List.pairwise_cons.1 h1
    have k2 := List.pairwise_cons.1 h2
    have e : a = b := by
      rcases List.mem_cons.1 ((h a).1 (List.mem_cons_self ..)) with e | e
      · exact e
      · rcases List.mem_cons.1 ((h b).2 (List.mem_cons_self ..)) with e2 | e2
        · exact e2.symm
        · exact (bb_asym (k2.1 a e) (k1.1 b e2)).elim
    subst e
    rw [srt_uniq k1.2 k2.2 fun t => ⟨fun ht => ?_, fun ht => ?_⟩]
    · rcases List.mem_cons.1 ((h t).1 (List.mem_cons_of_mem _ ht)) with e | e
      · subst e; exact (bb_asym (k1.1 t ht) (k1.1 t ht)).elim
      · exact e
    · rcases List.mem_cons.1 ((h t).2 (List.mem_cons_of_mem _ ht)) with e | e
      · subst e; exact (bb_asym (k2.1 t ht) (k2.1 t ht)).elim
      · exact e
theorem QAt.tens {w : World} {ow : Nat → Option (List UInt8)} {pb N : Nat} {mw mh : Option Nat} {l : List Hd} {q : List Hq} {D : List J} (h : QAt w ow pb mw mh l q N) (hp : (l.map Hd.j).Perm D) (hs : SJ D) : q.map Hq.nm = tens D := by
  refine srt_uniq (List.pairwise_map.2 h.H.srt) (srt_tens hs) fun t => ?_
  rw [mem_tens, List.mem_map]
  constructor
  · rintro ⟨z, hz, rfl⟩
    have c1 := h.H.cnt z hz
    have c2 := h.H.ne z hz
    cases hf : l.filter (fun a => a.j.tn == z.nm) with
    | nil => rw [hf] at c1; exact absurd c1 c2
    | cons a r =>
      have := List.mem_filter.1 (show a ∈ l.filter (fun a => a.j.tn == z.nm) by rw [hf]; exact List.mem_cons_self ..)
      exact ⟨a.j, hp.mem_iff.1 (List.mem_map.2 ⟨a, this.1, rfl⟩), by simpa using this.2⟩
  · rintro ⟨b, hb, rfl⟩
    obtain ⟨a, ha, rfl⟩ := List.mem_map.1 (hp.mem_iff.2 hb)
    exact h.H.has a ha
set_option maxHeartbeats 1000000 in
theorem names_raw (b nn : Nat) (D0 : DataW Nat) (w : World) (pb : Nat) (a : Value) (hc : w.heap[pb]? = some (.cells #[a, .map (some b)] 54 (0, 0))) (hown : w.ownsMap Try.prog 9 pE b nn D0) (hmax : Maps.size D0 ≤ maxLen) (hbytes : Maps.size D0 * 16 ≤ 140737488355328) :
    Calls Try.prog 13 #[.pointer (some ⟨pb, 0, none⟩)] w fun e w' => ∃ (v : Value) (ss : List (List UInt8)), e = .returned v ∧ ss.Perm (strKeys D0) ∧
      w'.ownsRow w.heap.size 9 1 v ss.length ((ss.mergeSort (fun x y => decide (x ≤ y))).map encStr) ∧ Below w.heap.size w w' := by
  have e0 := (c2 hc).2
  refine (callsIn_wide (n := 6)).1 ?_
  have hfK : Fence.wide.fn 32 := trivial
  have hfS : Fence.wide.fn 31 := trivial
  refine callsIn_of_wp Try.func13 rfl trivial ?_ rfl
  simp only [Try.ntmps13, List.size_toArray, List.length_cons, List.length_nil, Nat.reduceAdd, Nat.reduceSub, Array.replicate_succ, Array.replicate_zero, List.push_toArray, List.append_toArray, List.nil_append, List.cons_append]
  gi_wp2_with (first
    | (gi_at_call 32; refine (Try.maps_Keys_54 _ _).mono ?_; rintro e w' ⟨rfl, rfl⟩)
    | (gi_at_call 31; refine (Try.slices_Sorted_keys_53_54 b nn D0 pE w hown hmax hbytes).mono ?_; rintro e w' ⟨v, ss, rfl, hS, hrow, hnil, hb⟩))
  go_ret
  exact ⟨v, ss, rfl, hS, ownsRow_base_a hrow (by simp), ((Below.refl _ w).alloc (Nat.le_refl _) _).trans (hb.mono (by simp))⟩
set_option maxHeartbeats 1000000 in
theorem names_none (w : World) (pb : Nat) (a : Value) (hc : w.heap[pb]? = some (.cells #[a, .map none] 54 (0, 0))) :
    Calls Try.prog 13 #[.pointer (some ⟨pb, 0, none⟩)] w fun e w' => e = .returned (.slice none 0 0) ∧ Below w.heap.size w w' := by
  have e0 := (c2 hc).2
  refine (callsIn_wide (n := 6)).1 ?_
  have hfK : Fence.wide.fn 32 := trivial
  have hfS : Fence.wide.fn 31 := trivial
  refine callsIn_of_wp Try.func13 rfl trivial ?_ rfl
  simp only [Try.ntmps13, List.size_toArray, List.length_cons, List.length_nil, Nat.reduceAdd, Nat.reduceSub, Array.replicate_succ, Array.replicate_zero, List.push_toArray, List.append_toArray, List.nil_append, List.cons_append]
  gi_wp2_with (first
    | (gi_at_call 32; refine (Try.maps_Keys_54 _ _).mono ?_; rintro e w' ⟨rfl, rfl⟩)
    | (gi_at_call 31; refine (Try.slices_Sorted_keys_nil_53_54 w).mono ?_; rintro e w' ⟨v, ss, rfl, hS, hrow, hnil, hb⟩))
  go_ret
  exact ⟨by rw [hnil.2 hS]; rfl, ((Below.refl _ w).alloc (Nat.le_refl _) _).trans (hb.mono (by simp))⟩
theorem tens_any {w : World} {S : Nat → Prop} {pb N : Nat} {D : List J} (h : Que w S pb D N) :
    Calls Try.prog 13 #[.pointer (some ⟨pb, 0, none⟩)] w fun e w' => ∃ p c', e = .returned (.slice p (tens D).length c') ∧ Hid (SR w.heap.size w' (.slice p (tens D).length c') (tens D) ∧ Below w.heap.size w w') := by
  obtain ⟨⟨ow, mw, mh, l, q, h1, h2, h3, h4⟩, h5⟩ := h
  have ht := h1.tens h2 h3
  rw [← ht, List.length_map]
  have hm := h1.H.hm
  unfold MH at hm
  cases mh with
  | none =>
    subst hm
    refine (names_none w pb _ h1.W.cell).mono ?_
    rintro e w' ⟨rfl, hb⟩
    exact ⟨none, 0, rfl, World.ownsRow_nil _ _ _ _, hb⟩
  | some m =>
    have hl := h1.few
    refine (names_raw m q.length (mapH q) w pb _ h1.W.cell hm (by rw [mapH_size]; unfold maxLen; omega) (by rw [mapH_size]; omega)).mono ?_
    rintro e w' ⟨v, ss, rfl, hS, hrow, hb⟩
    have hk : strKeys (mapH q) = q.map Hq.nm := by
      unfold mapH strKeys
      simp only [List.map_map]
      rfl
    rw [hk] at hS
    rw [names_sorted (List.pairwise_map.2 h1.H.srt) hS, show ss.length = q.length by rw [hS.length_eq, List.length_map]] at hrow
    obtain ⟨p, c', rfl⟩ : ∃ p c', v = .slice p q.length c' := by
      rcases hrow.2 with ⟨rfl, hx⟩ | ⟨g, cap, cur, rfl, _⟩
      · exact ⟨none, 0, by simp at hx; simp [hx]⟩
      · exact ⟨_, _, rfl⟩
    refine ⟨p, c', rfl, ?_, hb⟩
    unfold SR GRow
    have e : ∀ L : List (List UInt8), L.flatMap sC = L.map encStr := fun L => by
      induction L with
      | nil => rfl
      | cons a r ih => rw [List.flatMap_cons, List.map_cons, ih]; rfl
    rw [e, List.length_map]
    exact hrow
end Go.Proofs.Ythlbeofonbbbdaa
