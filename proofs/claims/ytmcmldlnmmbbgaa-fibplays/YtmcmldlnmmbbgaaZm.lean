/-
  What the reference's lists hold; three heaps of each side, apart. Three heaps of each side: Meld; both sides hold the same. FibPlays: each kind of call on both sides. FibPlays: step.
-/
import Derived.Test.YtmcmldlnmmbbgaaZh
import Derived.Test.YtmcmldlnmmbbgaaZi
namespace Go.Proofs.Ytmcmldlnmmbbgaa
open Go.RowKit Go.Maps

section
variable {l : List RE} {k o : K} {j : Nat} {x : Int}
theorem rcont_some (h : rcont l x = some k) : ∃ j : Nat, x = (j : Int) ∧ l[j]? = some ⟨k, true⟩ := by
  unfold rcont at h
  split at h
  · cases h
  · rename_i h0
    obtain ⟨i, rfl⟩ : ∃ i : Nat, x = i := ⟨x.toNat, by omega⟩
    rw [show ((i : Int)).toNat = i by omega] at h
    cases hi : l[i]? with
    | none => rw [hi] at h; cases h
    | some e =>
      rw [hi] at h
      obtain ⟨ek, eo⟩ := e
      cases eo with
      | false => simp at h
      | true => simp at h; rw [h] at hi; exact ⟨i, rfl, hi⟩
theorem rcont_ext {l' : List RE} {C : Ct} (h : ∀ j : Nat, (match l'[j]? with | some e => if e.on then some e.k else none | none => none) = C j) (hn : ∀ x : Int, x < 0 → C x = none) : rcont l' = C := by
  funext x
  unfold rcont
  by_cases h0 : x < 0
  · rw [if_pos h0, hn x h0]
  · rw [if_neg h0]
    obtain ⟨i, rfl⟩ : ∃ i : Nat, x = i := ⟨x.toNat, by omega⟩
    exact h i
theorem rcont_neg (h : x < 0) : rcont l x = none := if_pos h
theorem rcont_nat (l : List RE) (j : Nat) : rcont l j = match l[j]? with | some e => if e.on then some e.k else none | none => none := by
  unfold rcont
  rw [if_neg (by omega)]
  rfl
theorem rcont_nil : rcont [] = Ct.nil := rcont_ext (fun j => by simp; rfl) fun _ _ => rfl
theorem rcont_app (l lo : List RE) : rcont (l ++ lo) = (rcont l).meld l.length (rcont lo) := by
  refine rcont_ext (fun j => ?_) (fun x h => ?_)
  · unfold Ct.meld
    by_cases q : j < l.length
    · rw [if_pos (by omega), rcont_nat, List.getElem?_append_left q]
    · rw [if_neg (by omega), show ((j : Int) - (l.length : Int)) = ((j - l.length : Nat) : Int) by omega, rcont_nat, List.getElem?_append_right (by omega)]
  · unfold Ct.meld
    rw [if_pos (by omega)]
    exact rcont_neg h
theorem rcont_push (l : List RE) (k : K) : rcont (l ++ [⟨k, true⟩]) = (rcont l).put l.length k := by
  refine rcont_ext (fun j => ?_) (fun x h => ?_)
  · unfold Ct.put
    by_cases e : j = l.length
    · subst e
      rw [if_pos rfl, List.getElem?_append_right (Nat.le_refl _), Nat.sub_self]
      rfl
    · rw [if_neg (by omega), rcont_nat]
      by_cases q : j < l.length
      · rw [List.getElem?_append_left q]
      · rw [List.getElem?_eq_none (by rw [List.length_append]; simp; omega), List.getElem?_eq_none (by omega)]
  · unfold Ct.put
    rw [if_neg (by omega)]
    exact rcont_neg h
theorem rcont_set {e e' : RE} (h : l[j]? = some e') : rcont (l.set j e) = fun x => if x = (j : Int) then (if e.on then some e.k else none) else rcont l x := by
  have hj : j < l.length := (List.getElem?_eq_some_iff.1 h).1
  refine rcont_ext (fun i => ?_) (fun x h => ?_)
  · by_cases q : i = j
    · subst q
      rw [if_pos rfl, List.getElem?_set_self hj]
    · rw [if_neg (by omega), List.getElem?_set_ne (fun e => q e.symm), rcont_nat]
  · rw [if_neg (by omega)]
    exact rcont_neg h
theorem rcont_del {e : RE} (h : l[j]? = some e) : rcont (l.set j re0) = (rcont l).del j := by
  rw [rcont_set h]
  rfl
theorem rcont_upd {e : RE} (h : l[j]? = some e) : rcont (l.set j ⟨k, true⟩) = (rcont l).put j k := by
  rw [rcont_set h]
  rfl
theorem rcount_push (l : List RE) (k : K) : rcount (l ++ [⟨k, true⟩]) = rcount l + 1 := by
  unfold rcount
  rw [List.countP_append]
  rfl
theorem rcount_app (l lo : List RE) : rcount (l ++ lo) = rcount l + rcount lo := by
  unfold rcount
  rw [List.countP_append]
theorem rcount_le (l : List RE) : rcount l ≤ l.length := List.countP_le_length
theorem countP_set : ∀ (l : List RE) (j : Nat) (e e' : RE), l[j]? = some e' → (l.set j e).countP (·.on) + (if e'.on then 1 else 0) = l.countP (·.on) + (if e.on then 1 else 0)
  | [], j, e, e', h => by simp at h
  | p :: l, 0, e, e', h => by
    have q : p = e' := by simpa using h
    subst q
    rw [List.set_cons_zero, List.countP_cons, List.countP_cons]
    omega
  | p :: l, j + 1, e, e', h => by
    rw [List.set_cons_succ, List.countP_cons, List.countP_cons]
    have := countP_set l j e e' (by simpa using h)
    omega
theorem rcount_del (h : l[j]? = some ⟨o, true⟩) : rcount (l.set j re0) = rcount l - 1 := by
  have := countP_set l j re0 _ h
  unfold rcount
  simp [re0] at this ⊢
  omega
theorem rcount_upd (h : l[j]? = some ⟨o, true⟩) : rcount (l.set j ⟨k, true⟩) = rcount l := by
  have := countP_set l j ⟨k, true⟩ _ h
  unfold rcount
  simp at this ⊢
  omega
theorem Rk.push (h : Rk l) (hk : k.ok) : Rk (l ++ [⟨k, true⟩]) := fun e he ho => by
  rcases List.mem_append.1 he with q | q
  · exact h e q ho
  · rw [List.mem_singleton.1 q]; exact hk
theorem Rk.app {lo : List RE} (h : Rk l) (h2 : Rk lo) : Rk (l ++ lo) := fun e he ho => by
  rcases List.mem_append.1 he with q | q
  · exact h e q ho
  · exact h2 e q ho
theorem Rk.set {e : RE} (h : Rk l) (hk : e.on = true → e.k.ok) : Rk (l.set j e) := fun x hx ho => by
  rcases List.mem_or_eq_of_mem_set hx with q | q
  · exact h x q ho
  · rw [q] at ho ⊢; exact hk ho
end
/-- what stays: the world ahead, and blocks that keep what they held in another -/
structure Fx where
  w : World
  V : Nat → Prop
  wv : World
/-- three heaps of each side, and blocks of somebody else's: whose each block is -/
structure F3 (w0 : Fx) (w : World) (hp rp : Nat → Nat) (C : Nat → Ct) (g n : Nat → Nat) (L : Nat → List RE) (T : Nat → Prop) (own : Nat → Nat) : Prop where
  h : ∀ i, i < 3 → ∃ tg S, Hc w tg (hp i) (C i) (g i) (n i) S ∧ ∀ k, tg k ≠ .no → own k = i + 1
  r : ∀ i, i < 3 → ∃ v, Rf w (rp i) v (L i) ∧ own (rp i) = i + 4 ∧ ∀ k, v.ownBlock = some k → own k = i + 4
  ok : ∀ i, i < 3 → Rk (L i)
  lo : ∀ k, own k ≠ 0 → w0.w.heap.size ≤ k
  t : ∀ k, T k → k < w.heap.size ∧ own k = 0
  b : Below w0.w.heap.size w0.w w
  v : ∀ k, w0.V k → k < w.heap.size ∧ own k = 0 ∧ w.heap[k]? = w0.wv.heap[k]?
def F3e (w0 : Fx) (w : World) (hp rp : Nat → Nat) (C : Nat → Ct) (g n : Nat → Nat) (L : Nat → List RE) (T : Nat → Prop) : Prop := ∃ own, F3 w0 w hp rp C g n L T own
section
variable {w0 : Fx} {w w' : World} {hp rp : Nat → Nat} {C : Nat → Ct} {g n : Nat → Nat} {L : Nat → List RE} {T T' : Nat → Prop} {own : Nat → Nat} {i j : Nat}
theorem F3.below (h : F3 w0 w hp rp C g n L T own) (b : Below w.heap.size w w') : F3 w0 w' hp rp C g n L T own := by
  refine ⟨fun i hi => ?_, fun i hi => ?_, h.ok, h.lo, fun k hk => ⟨Nat.lt_of_lt_of_le (h.t k hk).1 b.size, (h.t k hk).2⟩, h.b.trans (b.mono h.b.size), fun k hk => ⟨Nat.lt_of_lt_of_le (h.v k hk).1 b.size, (h.v k hk).2.1, (b.block k (h.v k hk).1).trans (h.v k hk).2.2⟩⟩
  · obtain ⟨tg, S, h1, h2⟩ := h.h i hi
    exact ⟨tg, S, h1.keep b, h2⟩
  · obtain ⟨v, h1, h2⟩ := h.r i hi
    exact ⟨v, h1.keep b, h2⟩
theorem F3e.below (h : F3e w0 w hp rp C g n L T) (b : Below w.heap.size w w') : F3e w0 w' hp rp C g n L T := by
  obtain ⟨own, h⟩ := h
  exact ⟨own, h.below b⟩
theorem F3e.less (h : F3e w0 w hp rp C g n L T) (hT : ∀ k, T' k → T k) : F3e w0 w hp rp C g n L T' := by
  obtain ⟨own, h⟩ := h
  exact ⟨own, h.h, h.r, h.ok, h.lo, fun k hk => h.t k (hT k hk), h.b, h.v⟩
theorem Hc.lt {tg : Nat → Tg} {hb gg nn : Nat} {CC : Ct} {S : HS} (h : Hc w tg hb CC gg nn S) {k : Nat} (q : tg k ≠ .no) : k < w.heap.size := h.h.m.lt k q
/-- a new block is somebody else's -/
theorem F3e.box (h : F3e w0 w hp rp C g n L T) (o : Obj) : F3e w0 (w.alloc o) hp rp C g n L (fun k => T k ∨ k = w.heap.size) := by
  obtain ⟨own, h⟩ := h
  have b : Below w.heap.size w (w.alloc o) := (Below.refl _ w).alloc (Nat.le_refl _) _
  refine ⟨fun k => if k < w.heap.size then own k else 0, fun i hi => ?_, fun i hi => ?_, h.ok, fun k hk => ?_, fun k hk => ?_, h.b.trans (b.mono h.b.size), fun k hk => ⟨Nat.lt_of_lt_of_le (h.v k hk).1 b.size, by rw [if_pos (h.v k hk).1]; exact (h.v k hk).2.1, (b.block k (h.v k hk).1).trans (h.v k hk).2.2⟩⟩
  · obtain ⟨tg, S, h1, h2⟩ := h.h i hi
    exact ⟨tg, S, h1.keep b, fun k q => by rw [if_pos (h1.lt q)]; exact h2 k q⟩
  · obtain ⟨v, h1, h2, h3⟩ := h.r i hi
    exact ⟨v, h1.keep b, by rw [if_pos h1.blk]; exact h2, fun k q => by rw [if_pos (h1.lt q)]; exact h3 k q⟩
  · split at hk
    · exact h.lo k hk
    · exact absurd rfl hk
  · rcases hk with q | q
    · exact ⟨Nat.lt_of_lt_of_le (h.t k q).1 b.size, by rw [if_pos (h.t k q).1]; exact (h.t k q).2⟩
    · subst q
      exact ⟨by simp, if_neg (by omega)⟩
/-- what a call on one of the six changes -/
theorem F3.frame (h : F3 w0 w hp rp C g n L T own) {P : Nat → Prop} (c : Kp P w w') {m : Nat} (hm : m ≠ 0) (hP : ∀ k, P k → own k = m) : (∀ i, i < 3 → i + 1 ≠ m → ∃ tg S, Hc w' tg (hp i) (C i) (g i) (n i) S ∧ ∀ k, tg k ≠ .no → own k = i + 1 ∧ k < w.heap.size) ∧ (∀ i, i < 3 → i + 4 ≠ m → ∃ v, Rf w' (rp i) v (L i) ∧ (own (rp i) = i + 4 ∧ rp i < w.heap.size) ∧ ∀ k, v.ownBlock = some k → own k = i + 4 ∧ k < w.heap.size) ∧ (∀ k, T k → w'.heap[k]? = w.heap[k]?) ∧ Below w0.w.heap.size w0.w w' := by
  refine ⟨fun i hi hne => ?_, fun i hi hne => ?_, fun k hk => ?_, h.b.trans (c.below h.b.size fun k hk q => ?_)⟩
  · obtain ⟨tg, S, h1, h2⟩ := h.h i hi
    exact ⟨tg, S, h1.off c fun k q p => hne (by rw [← h2 k q, hP k p]), fun k q => ⟨h2 k q, h1.lt q⟩⟩
  · obtain ⟨v, h1, h2, h3⟩ := h.r i hi
    exact ⟨v, h1.kp c (fun p => hne (by rw [← h2, hP _ p])) fun k q p => hne (by rw [← h3 k q, hP k p]), ⟨h2, h1.blk⟩, fun k q => ⟨h3 k q, h1.lt q⟩⟩
  · exact c.block k (h.t k hk).1 fun p => hm (by rw [← hP k p, (h.t k hk).2])
  · have := h.lo k (by rw [hP k q]; exact hm)
    omega
theorem F3.vkp (h : F3 w0 w hp rp C g n L T own) {P : Nat → Prop} (c : Kp P w w') (hP : ∀ k, P k → own k ≠ 0) : ∀ k, w0.V k → w'.heap[k]? = w0.wv.heap[k]? := fun k hk => (c.block k (h.v k hk).1 fun p => hP k p (h.v k hk).2.1).trans (h.v k hk).2.2
/-- the owners behind a call on one: what is new is its -/
def own2 (w : World) (own : Nat → Nat) (m : Nat) : Nat → Nat := fun k => if k < w.heap.size then own k else m
theorem own2_lt {k m : Nat} (h : k < w.heap.size) : own2 w own m k = own k := if_pos h
theorem F3.left (h : F3 w0 w hp rp C g n L T own) (hi : i < 3) {tg tg' : Nat → Tg} {C' : Ct} {g' n' : Nat} {S' : HS} (ht : ∀ k, tg k ≠ .no → own k = i + 1) (hH : Hc w' tg' (hp i) C' g' n' S') (c : Chg (fun k => tg k ≠ .no) w w' tg tg') : F3e w0 w' hp rp (upd C i C') (upd g i g') (upd n i n') L T ∧ ∀ k, T k → w'.heap[k]? = w.heap[k]? := by
  obtain ⟨f1, f2, f3, f4⟩ := h.frame c.kp (m := i + 1) (by omega) ht
  refine ⟨⟨own2 w own (i + 1), fun j hj => ?_, fun j hj => ?_, h.ok, fun k hk => ?_, fun k hk => ⟨Nat.lt_of_lt_of_le (h.t k hk).1 c.kp.size, (own2_lt (h.t k hk).1).trans (h.t k hk).2⟩, f4, fun k hk => ⟨Nat.lt_of_lt_of_le (h.v k hk).1 c.kp.size, (own2_lt (h.v k hk).1).trans (h.v k hk).2.1, h.vkp c.kp (fun k q => by rw [ht k q]; omega) k hk⟩⟩, f3⟩
  · by_cases e : j = i
    · subst e
      rw [upd_same, upd_same, upd_same]
      refine ⟨tg', S', hH, fun k q => ?_⟩
      by_cases hk : k < w.heap.size
      · rw [own2_lt hk]
        exact ht k (by rw [← c.tg k hk]; exact q)
      · exact if_neg hk
    · rw [upd_other _ _ e, upd_other _ _ e, upd_other _ _ e]
      obtain ⟨tg1, S1, h1, h2⟩ := f1 j hj (by omega)
      exact ⟨tg1, S1, h1, fun k q => (own2_lt (h2 k q).2).trans (h2 k q).1⟩
  · obtain ⟨v, h1, h2, h3⟩ := f2 j hj (by omega)
    exact ⟨v, h1, (own2_lt h2.2).trans h2.1, fun k q => (own2_lt (h3 k q).2).trans (h3 k q).1⟩
  · by_cases q : k < w.heap.size
    · rw [own2_lt q] at hk; exact h.lo k hk
    · have := h.b.size; omega
theorem F3.right (h : F3 w0 w hp rp C g n L T own) (hi : i < 3) {v v' : Value} {l' : List RE} (hr : own (rp i) = i + 4) (hv : ∀ k, v.ownBlock = some k → own k = i + 4) (hR : Rf w' (rp i) v' l') (hok : Rk l') (c : Kp (fun j => j = rp i ∨ v.ownBlock = some j) w w') (lo : ∀ j, v'.ownBlock = some j → v.ownBlock = some j ∨ w.heap.size ≤ j) (hlt : rp i < w.heap.size ∧ ∀ k, v.ownBlock = some k → k < w.heap.size) : F3e w0 w' hp rp C g n (upd L i l') T ∧ ∀ k, T k → w'.heap[k]? = w.heap[k]? := by
  obtain ⟨f1, f2, f3, f4⟩ := h.frame c (m := i + 4) (by omega) (fun k q => by
    rcases q with q | q
    · rw [q]; exact hr
    · exact hv k q)
  refine ⟨⟨own2 w own (i + 4), fun j hj => ?_, fun j hj => ?_, fun j hj => ?_, fun k hk => ?_, fun k hk => ⟨Nat.lt_of_lt_of_le (h.t k hk).1 c.size, (own2_lt (h.t k hk).1).trans (h.t k hk).2⟩, f4, fun k hk => ⟨Nat.lt_of_lt_of_le (h.v k hk).1 c.size, (own2_lt (h.v k hk).1).trans (h.v k hk).2.1, h.vkp c (fun k q => by rcases q with q | q; rw [q, hr]; omega; rw [hv k q]; omega) k hk⟩⟩, f3⟩
  · obtain ⟨tg1, S1, h1, h2⟩ := f1 j hj (by omega)
    exact ⟨tg1, S1, h1, fun k q => (own2_lt (h2 k q).2).trans (h2 k q).1⟩
  · by_cases e : j = i
    · subst e
      rw [upd_same]
      refine ⟨v', hR, (own2_lt hlt.1).trans hr, fun k q => ?_⟩
      rcases lo k q with q | q
      · exact (own2_lt (hlt.2 k q)).trans (hv k q)
      · exact if_neg (by omega)
    · rw [upd_other _ _ e]
      obtain ⟨v1, h1, h2, h3⟩ := f2 j hj (by omega)
      exact ⟨v1, h1, (own2_lt h2.2).trans h2.1, fun k q => (own2_lt (h3 k q).2).trans (h3 k q).1⟩
  · by_cases e : j = i
    · subst e; rw [upd_same]; exact hok
    · rw [upd_other _ _ e]; exact h.ok j hj
  · by_cases q : k < w.heap.size
    · rw [own2_lt q] at hk; exact h.lo k hk
    · have := h.b.size; omega
end
end Go.Proofs.Ytmcmldlnmmbbgaa

namespace Go.Proofs.Ytmcmldlnmmbbgaa
open Go.RowKit Go.Maps

section
variable {w0 : Fx} {w w' : World} {hp rp : Nat → Nat} {C : Nat → Ct} {g n : Nat → Nat} {L : Nat → List RE} {T T' : Nat → Prop} {own : Nat → Nat} {i j : Nat}
theorem F3.frame2 (h : F3 w0 w hp rp C g n L T own) {P : Nat → Prop} (c : Kp P w w') {M : Nat → Prop} (hm : ¬ M 0) (hP : ∀ k, P k → M (own k)) : (∀ i, i < 3 → ¬ M (i + 1) → ∃ tg S, Hc w' tg (hp i) (C i) (g i) (n i) S ∧ ∀ k, tg k ≠ .no → own k = i + 1 ∧ k < w.heap.size) ∧ (∀ i, i < 3 → ¬ M (i + 4) → ∃ v, Rf w' (rp i) v (L i) ∧ (own (rp i) = i + 4 ∧ rp i < w.heap.size) ∧ ∀ k, v.ownBlock = some k → own k = i + 4 ∧ k < w.heap.size) ∧ (∀ k, T k → w'.heap[k]? = w.heap[k]?) ∧ Below w0.w.heap.size w0.w w' := by
  refine ⟨fun i hi hne => ?_, fun i hi hne => ?_, fun k hk => ?_, h.b.trans (c.below h.b.size fun k hk q => ?_)⟩
  · obtain ⟨tg, S, h1, h2⟩ := h.h i hi
    exact ⟨tg, S, h1.off c fun k q p => hne (by rw [← h2 k q]; exact hP k p), fun k q => ⟨h2 k q, h1.lt q⟩⟩
  · obtain ⟨v, h1, h2, h3⟩ := h.r i hi
    exact ⟨v, h1.kp c (fun p => hne (by rw [← h2]; exact hP _ p)) fun k q p => hne (by rw [← h3 k q]; exact hP k p), ⟨h2, h1.blk⟩, fun k q => ⟨h3 k q, h1.lt q⟩⟩
  · exact c.block k (h.t k hk).1 fun p => hm (by rw [← (h.t k hk).2]; exact hP k p)
  · have := h.lo k (fun e => hm (by rw [← e]; exact hP k q))
    omega
theorem meld_C {tA tB : Nat → Tg} {a b gA nA gB nB : Nat} {CA CB : Ct} {SA SB : HS} (ha : Hc w tA a CA gA nA SA) (hb : Hc w tB b CB gB nB SB) (ab : ∀ k, tA k ≠ .no → tB k = .no) (hg : gA + gB ≤ 1048576) (hn : nB + nA ≤ 2000) :
    Calls Try.prog 21 #[.pointer (some ⟨a, 0, none⟩), .pointer (some ⟨b, 0, none⟩)] w fun e w' => e = .returned (.tuple #[.int .i64 gA, .int .i64 0]) ∧ ∃ tg S', Hc w' tg a (CA.meld gA CB) (gA + gB) (nA + nB) S' ∧ Blk w' b 70 32 zH ∧ tg b = .no ∧ (∀ k, k < w.heap.size → tg k ≠ .no → tA k ≠ .no ∨ tB k ≠ .no) ∧ Kp (fun k => tA k ≠ .no ∨ tB k ≠ .no) w w' := by
  have g1 := ha.g
  have g2 := hb.g
  have n1 := ha.n
  have n2 := hb.n
  have h2 : Two w tA tB a b SA SB := ⟨ha.h, hb.h, ab⟩
  refine (meld_S h2 (by omega) (by omega)).mono ?_
  rintro e w' ⟨rfl, tg, P, S', M⟩
  have hPlen : P.length = SB.X.length := by
    have hnd : (P ++ SA.X).Nodup := by rw [← M.X]; exact M.h.i.nd
    have hPn := (List.nodup_append.1 hnd).1
    exact Nat.le_antisymm (nodup_len hPn fun x hx => (M.pm x).1 hx) (nodup_len hb.h.i.nd fun x hx => (M.pm x).2 hx)
  refine ⟨by rw [g1], tg, S', ⟨M.h, ?_, by rw [M.gv, g1, g2], by rw [M.X, List.length_append, hPlen, n1, n2]; omega⟩, M.oz, M.tb, M.tl, M.kp⟩
  funext x
  have hdS : ∀ y ∈ SA.X, S'.hd y = SA.hd y ∧ S'.ky y = SA.ky y := fun y hy => by rw [M.hd, M.ky]; exact ⟨if_pos hy, if_pos hy⟩
  have hdO : ∀ y ∈ SB.X, S'.hd y = SB.hd y + SA.gv ∧ S'.ky y = SB.ky y := fun y hy => by rw [M.hd, M.ky]; exact ⟨if_neg (h2.dis y hy), if_neg (h2.dis y hy)⟩
  unfold Ct.meld
  by_cases q : x < (gA : Int)
  · rw [if_pos q]
    refine cont_eq M.h.i.hu (fun k e => ?_) (fun e y hy => ?_)
    · rw [← ha.c] at e
      obtain ⟨y, y1, y2, y3⟩ := cont_some e
      exact ⟨y, by rw [M.X]; exact List.mem_append_right _ y1, by rw [(hdS y y1).1]; exact y2, by rw [(hdS y y1).2]; exact y3⟩
    · rw [M.X] at hy
      rcases List.mem_append.1 hy with hy | hy
      · rw [(hdO y ((M.pm y).1 hy)).1]; omega
      · rw [(hdS y hy).1]
        rw [← ha.c] at e
        exact cont_none e y hy
  · rw [if_neg q]
    refine cont_eq M.h.i.hu (fun k e => ?_) (fun e y hy => ?_)
    · rw [← hb.c] at e
      obtain ⟨y, y1, y2, y3⟩ := cont_some e
      exact ⟨y, by rw [M.X]; exact List.mem_append_left _ ((M.pm y).2 y1), by rw [(hdO y y1).1]; omega, by rw [(hdO y y1).2]; exact y3⟩
    · rw [M.X] at hy
      rcases List.mem_append.1 hy with hy | hy
      · have hyB := (M.pm y).1 hy
        rw [← hb.c] at e
        have := cont_none e y hyB
        rw [(hdO y hyB).1]
        omega
      · rw [(hdS y hy).1]
        have := ha.h.i.hg y hy
        omega
theorem F3e.meldL (h : F3e w0 w hp rp C g n L T) (hi : i < 3) (hj : j < 3) (hij : i ≠ j) (hg : g i + g j ≤ 1048576) (hn : n j + n i ≤ 2000) :
    Calls Try.prog 21 #[.pointer (some ⟨hp i, 0, none⟩), .pointer (some ⟨hp j, 0, none⟩)] w fun e w' => e = .returned (.tuple #[.int .i64 (g i : Nat), .int .i64 0]) ∧ F3e w0 w' hp rp (upd (upd C j Ct.nil) i ((C i).meld (g i) (C j))) (upd (upd g j 0) i (g i + g j)) (upd (upd n j 0) i (n i + n j)) L T ∧ ∀ k, T k → w'.heap[k]? = w.heap[k]? := by
  obtain ⟨own, h⟩ := h
  obtain ⟨tA, SA, a1, a2⟩ := h.h i hi
  obtain ⟨tB, SB, b1, b2⟩ := h.h j hj
  have ab : ∀ k, tA k ≠ .no → tB k = .no := fun k q => by
    by_cases e : tB k = .no
    · exact e
    · have := a2 k q; have := b2 k e; omega
  refine (meld_C a1 b1 ab hg hn).mono ?_
  rintro e w' ⟨rfl, tg, S', m1, m2, m3, m4, m5⟩
  refine ⟨rfl, ?_⟩
  obtain ⟨f1, f2, f3, f4⟩ := h.frame2 m5 (M := fun x => x = i + 1 ∨ x = j + 1) (by omega) (fun k q => by
    rcases q with q | q
    · exact .inl (a2 k q)
    · exact .inr (b2 k q))
  have hbj : tB (hp j) ≠ .no := by rw [b1.h.m.tp]; exact nofun
  have hjl := b1.lt hbj
  refine ⟨⟨fun k => if k < w.heap.size then (if own k = j + 1 ∧ k ≠ hp j then i + 1 else own k) else i + 1, fun m hm => ?_, fun m hm => ?_, h.ok, fun k hk => ?_, fun k hk => ⟨Nat.lt_of_lt_of_le (h.t k hk).1 m5.size, ?_⟩, f4, fun k hk => ⟨Nat.lt_of_lt_of_le (h.v k hk).1 m5.size, ?_, h.vkp m5 (fun k q => by rcases q with q | q; rw [a2 k q]; omega; rw [b2 k q]; omega) k hk⟩⟩, f3⟩
  · by_cases e : m = i
    · subst e
      rw [upd_same, upd_same, upd_same]
      refine ⟨tg, S', m1, fun k q => ?_⟩
      by_cases hk : k < w.heap.size
      · rw [if_pos hk]
        rcases m4 k hk q with q2 | q2
        · have := a2 k q2
          rw [if_neg (by omega)]; exact this
        · rw [if_pos ⟨b2 k q2, fun e => q (by rw [e]; exact m3)⟩]
      · rw [if_neg hk]
    · rw [upd_other _ _ e, upd_other _ _ e, upd_other _ _ e]
      by_cases e2 : m = j
      · subst e2
        rw [upd_same, upd_same, upd_same]
        refine ⟨_, zS, hc_zero m2, fun k q => ?_⟩
        by_cases ek : k = hp m
        · subst ek
          rw [if_pos hjl, if_neg (by simp)]
          exact b2 _ hbj
        · rw [if_neg ek] at q; exact absurd rfl q
      · rw [upd_other _ _ e2, upd_other _ _ e2, upd_other _ _ e2]
        obtain ⟨tg1, S1, h1, h2⟩ := f1 m hm (by omega)
        refine ⟨tg1, S1, h1, fun k q => ?_⟩
        have := h2 k q
        rw [if_pos this.2, if_neg (by omega)]
        exact this.1
  · obtain ⟨v, h1, h2, h3⟩ := f2 m hm (by omega)
    refine ⟨v, h1, ?_, fun k q => ?_⟩
    · rw [if_pos h2.2, if_neg (by omega)]; exact h2.1
    · have := h3 k q
      rw [if_pos this.2, if_neg (by omega)]; exact this.1
  · by_cases q : k < w.heap.size
    · rw [if_pos q] at hk
      refine h.lo k fun e => ?_
      rw [if_neg (by omega)] at hk
      exact hk e
    · have := h.b.size; omega
  · have := h.t k hk
    rw [if_pos this.1, if_neg (by omega)]; exact this.2
  · have := h.v k hk
    rw [if_pos this.1, if_neg (by omega)]; exact this.2.1
theorem F3e.meldR (h : F3e w0 w hp rp C g n L T) (hi : i < 3) (hj : j < 3) (hij : i ≠ j) (hg : (L i).length + (L j).length ≤ 1048576) :
    Calls Try.prog 29 #[.pointer (some ⟨rp i, 0, none⟩), .pointer (some ⟨rp j, 0, none⟩)] w fun e w' => e = .returned (.tuple #[.int .i64 (L i).length, .int .i64 0]) ∧ F3e w0 w' hp rp C g n (upd (upd L j []) i (L i ++ L j)) T ∧ ∀ k, T k → w'.heap[k]? = w.heap[k]? := by
  obtain ⟨own, h⟩ := h
  obtain ⟨v, a1, a2, a3⟩ := h.r i hi
  obtain ⟨vo, b1, b2, b3⟩ := h.r j hj
  obtain ⟨q, c, rfl⟩ := a1.shape
  obtain ⟨qo, co, rfl⟩ := b1.shape
  have hap : Rap (rp i) (rp j) (.slice q (L i).length c) (.slice qo (L j).length co) := ⟨fun e => by rw [e] at a2; omega, fun e => by have := a3 _ e; omega, fun e => by have := b3 _ e; omega, fun k e e' => by have := a3 k e; have := b3 k e'; omega⟩
  refine (rmeld_raw w (rp i) (rp j) (L i) (L j) _ _ q qo c co rfl rfl hg a1 b1 hap).mono ?_
  rintro e w' ⟨rfl, v', R⟩
  refine ⟨rfl, ?_⟩
  obtain ⟨f1, f2, f3, f4⟩ := h.frame2 R.kp (M := fun x => x = i + 4 ∨ x = j + 4) (by omega) (fun k q => by
    rcases q with q | q | q
    · rw [q]; exact .inl a2
    · rw [q]; exact .inr b2
    · exact .inl (a3 k q))
  refine ⟨⟨own2 w own (i + 4), fun m hm => ?_, fun m hm => ?_, fun m hm => ?_, fun k hk => ?_, fun k hk => ⟨Nat.lt_of_lt_of_le (h.t k hk).1 R.kp.size, (own2_lt (h.t k hk).1).trans (h.t k hk).2⟩, f4, fun k hk => ⟨Nat.lt_of_lt_of_le (h.v k hk).1 R.kp.size, (own2_lt (h.v k hk).1).trans (h.v k hk).2.1, h.vkp R.kp (fun k q => by rcases q with q | q | q; rw [q, a2]; omega; rw [q, b2]; omega; rw [a3 k q]; omega) k hk⟩⟩, f3⟩
  · obtain ⟨tg1, S1, h1, h2⟩ := f1 m hm (by omega)
    exact ⟨tg1, S1, h1, fun k q => (own2_lt (h2 k q).2).trans (h2 k q).1⟩
  · by_cases e : m = i
    · subst e
      rw [upd_same]
      refine ⟨v', R.r, (own2_lt a1.blk).trans a2, fun k q => ?_⟩
      rcases R.lo k q with q | q
      · exact (own2_lt (a1.lt q)).trans (a3 k q)
      · exact if_neg (by omega)
    · rw [upd_other _ _ e]
      by_cases e2 : m = j
      · subst e2
        rw [upd_same]
        exact ⟨_, R.o, (own2_lt b1.blk).trans b2, nofun⟩
      · rw [upd_other _ _ e2]
        obtain ⟨v1, h1, h2, h3⟩ := f2 m hm (by omega)
        exact ⟨v1, h1, (own2_lt h2.2).trans h2.1, fun k q => (own2_lt (h3 k q).2).trans (h3 k q).1⟩
  · by_cases e : m = i
    · subst e; rw [upd_same]; exact (h.ok _ hi).app (h.ok _ hj)
    · rw [upd_other _ _ e]
      by_cases e2 : m = j
      · subst e2; rw [upd_same]; exact nofun
      · rw [upd_other _ _ e2]; exact h.ok m hm
  · by_cases q : k < w.heap.size
    · rw [own2_lt q] at hk; exact h.lo k hk
    · have := h.b.size; omega
end
/-- both sides hold the same -/
def Ft (w0 : Fx) (w : World) (hp rp : Nat → Nat) (L : Nat → List RE) (T : Nat → Prop) : Prop := F3e w0 w hp rp (fun i => rcont (L i)) (fun i => (L i).length) (fun i => rcount (L i)) L T
def NoP : Nat → Prop := fun _ => False
def tot (L : Nat → List RE) : Nat := (L 0).length + (L 1).length + (L 2).length
section
variable {α β : Type}
theorem upd_map (f : α → β) (L : Nat → α) (i : Nat) (l : α) : (fun j => f (upd L i l j)) = upd (fun j => f (L j)) i (f l) := by
  funext j
  unfold upd
  split <;> rfl
end
theorem tot_upd (L : Nat → List RE) {i : Nat} (l : List RE) (hi : i < 3) : tot (upd L i l) + (L i).length = tot L + l.length := by
  unfold tot upd
  rcases (by omega : i = 0 ∨ i = 1 ∨ i = 2) with rfl | rfl | rfl <;> simp <;> omega
theorem tot_at (L : Nat → List RE) {i : Nat} (hi : i < 3) : (L i).length ≤ tot L := by
  unfold tot
  rcases (by omega : i = 0 ∨ i = 1 ∨ i = 2) with rfl | rfl | rfl <;> omega
theorem tot_two (L : Nat → List RE) {i j : Nat} (hi : i < 3) (hj : j < 3) (h : i ≠ j) : (L i).length + (L j).length ≤ tot L := by
  unfold tot
  rcases (by omega : i = 0 ∨ i = 1 ∨ i = 2) with rfl | rfl | rfl <;> rcases (by omega : j = 0 ∨ j = 1 ∨ j = 2) with rfl | rfl | rfl <;> first | omega | exact absurd rfl h
theorem tot_meld (L : Nat → List RE) {i j : Nat} (hi : i < 3) (hj : j < 3) (h : i ≠ j) : tot (upd (upd L j []) i (L i ++ L j)) = tot L := by
  unfold tot upd
  rcases (by omega : i = 0 ∨ i = 1 ∨ i = 2) with rfl | rfl | rfl <;> rcases (by omega : j = 0 ∨ j = 1 ∨ j = 2) with rfl | rfl | rfl <;> first | exact absurd rfl h | (simp <;> omega) | simp
end Go.Proofs.Ytmcmldlnmmbbgaa

namespace Go.Proofs.Ytmcmldlnmmbbgaa
open Go.RowKit Go.Maps

structure Kw (k : K) : Prop where
  n : k.n < 18446744073709551616
  d : k.d < 18446744073709551616
def kz : K := ⟨0, 0, 0⟩
def ky3 (k : K) : Array Value := #[.int .u64 k.n, .int .u64 k.d, .int .i64 k.t]
def Kt (T : Nat → Prop) (w w2 : World) : Prop := ∀ j, T j → w2.heap[j]? = w.heap[j]?
theorem rcount_none {l : List RE} (h : rcount l = 0) (x : Int) : rcont l x = none := by
  cases q : rcont l x with
  | none => rfl
  | some k =>
    obtain ⟨j, _, hj⟩ := rcont_some q
    have := List.countP_eq_zero.1 h _ (List.mem_of_getElem? hj)
    exact absurd rfl this
section
variable {w0 : Fx} {w w' : World} {hp rp : Nat → Nat} {C : Nat → Ct} {g n : Nat → Nat} {L : Nat → List RE} {T T' : Nat → Prop} {i j : Nat} {k : K} {x : Int}
theorem F3e.kept (h : F3e w0 w hp rp C g n L T) (b : Below w.heap.size w w') : Kt T w w' := by
  obtain ⟨own, h⟩ := h
  exact fun k hk => b.block k (h.t k hk).1
theorem Kt.trans {w1 w2 : World} (h : Kt T w w1) (h2 : Kt T w1 w2) : Kt T w w2 := fun j hj => (h2 j hj).trans (h j hj)
theorem F3e.rget (h : F3e w0 w hp rp C g n L T) (hi : i < 3) (x : Int) : Calls Try.prog 28 #[.pointer (some ⟨rp i, 0, none⟩), .int .i64 x] w fun e w' => (match rcont (L i) x with
    | some k => e = .returned (.tuple #[ktup k.n k.d k.t, .int .i64 0])
    | none => e = .returned (.tuple #[ktup 0 0 0, .int .i64 3])) ∧ Below w.heap.size w w' := by
  obtain ⟨own, h⟩ := h
  obtain ⟨v, h1, _⟩ := h.r i hi
  exact rget_any h1 x
theorem F3e.okL (h : F3e w0 w hp rp C g n L T) (hi : i < 3) : Rk (L i) := by
  obtain ⟨own, h⟩ := h
  exact h.ok i hi
theorem F3e.rmin (h : F3e w0 w hp rp C g n L T) (hi : i < 3) (hl : (L i).length ≤ 1048576) : Calls Try.prog 24 #[.pointer (some ⟨rp i, 0, none⟩)] w fun e w' => Ea (L i) e ∧ Below w.heap.size w w' := by
  obtain ⟨own, h⟩ := h
  obtain ⟨v, h1, _⟩ := h.r i hi
  exact rmin_any h1 hl (h.ok i hi)
theorem ea_one {l : List RE} {y : Nat} {k1 : K} {e : Ending} (h : Ea l e) (hx : (rcont l).min y k1) : e = .returned (.tuple #[.int .i64 y, ktup k1.n k1.d k1.t, .int .i64 0]) ∧ l[y]? = some ⟨k1, true⟩ := by
  rcases h with ⟨_, h⟩ | ⟨j, z, h1, h2, h3, h4⟩
  · have := hx.1; rw [h y] at this; cases this
  · obtain ⟨rfl, e2⟩ := min_unique hx h4
    subst e2
    refine ⟨h1, ?_⟩
    rw [h2]
    obtain ⟨yk, yo⟩ := z
    cases h3
    rfl
theorem ea_zero {l : List RE} {e : Ending} (h : Ea l e) (hn : ∀ x, rcont l x = none) : e = .returned (.tuple #[.int .i64 0, ktup 0 0 0, .int .i64 3]) := by
  rcases h with ⟨h, _⟩ | ⟨j, y, h1, h2, h3, h4⟩
  · exact h
  · have := h4.1; rw [hn j] at this; cases this
theorem F3e.rset (_h : F3e w0 w hp rp C g n L T) (hi : i < 3) {v : Value} (own : Nat → Nat) (hF : F3 w0 w hp rp C g n L T own) (h1 : Rf w (rp i) v (L i)) (h2 : own (rp i) = i + 4) (h3 : ∀ k, v.ownBlock = some k → own k = i + 4) {l' : List RE} (hR : Rf w' (rp i) v l') (hok : Rk l') (c : Kp (fun k => v.ownBlock = some k) w w') : F3e w0 w' hp rp C g n (upd L i l') T ∧ Kt T w w' :=
  hF.right hi h2 h3 hR hok (c.mono fun _ _ q => .inr q) (fun _ q => .inl q) ⟨h1.blk, fun _ q => h1.lt q⟩
theorem ft_mk {l' : List RE} {C' : Ct} {g' n' : Nat} (h : F3e w0 w hp rp (upd (fun i => rcont (L i)) i C') (upd (fun i => (L i).length) i g') (upd (fun i => rcount (L i)) i n') (upd L i l') T) (h1 : rcont l' = C') (h2 : l'.length = g') (h3 : rcount l' = n') : Ft w0 w hp rp (upd L i l') T := by
  unfold Ft
  rw [upd_map rcont L i l', upd_map List.length L i l', upd_map rcount L i l', h1, h2, h3]
  exact h
/-- Insert -/
theorem st1 (h : Ft w0 w hp rp L T) (hi : i < 3) (hk : Kw k) (ht : tot L < 1000) : ∃ (y ee : Int) (L' : Nat → List RE), tot L' ≤ tot L + 1 ∧ Calls Try.prog 14 #[.pointer (some ⟨hp i, 0, none⟩), .agg #[.int .u64 k.n, .int .u64 k.d, .int .i64 k.t]] w fun e w2 => e = .returned (.tuple #[.int .i64 y, .int .i64 ee]) ∧ Hid (Kt T w w2 ∧ ∀ w3, Below w2.heap.size w2 w3 → Calls Try.prog 23 #[.pointer (some ⟨rp i, 0, none⟩), .agg #[.int .u64 k.n, .int .u64 k.d, .int .i64 k.t]] w3 fun e w4 => e = .returned (.tuple #[.int .i64 y, .int .i64 ee]) ∧ Hid (Ft w0 w4 hp rp L' NoP)) := by
  have htl := tot_at L hi
  have hrc := rcount_le (L i)
  by_cases hd : k.d = 0
  · refine ⟨0, 4, L, by omega, ?_⟩
    have hI := insert_form (hp i) k.n k.t w
    have e0 : (0 : Nat) = k.d := hd.symm
    unfold ktup ptr at hI
    have hI' : Calls Try.prog 14 #[.pointer (some ⟨hp i, 0, none⟩), .agg #[.int .u64 k.n, .int .u64 (k.d : Nat), .int .i64 k.t]] w fun e w' => e = .returned (.tuple #[.int .i64 0, .int .i64 4]) ∧ Below w.heap.size w w' := by rw [hd]; exact hI
    refine hI'.mono ?_
    rintro e w2 ⟨rfl, b2⟩
    refine ⟨rfl, F3e.kept h b2, fun w3 b3 => ?_⟩
    refine (rins_form w3 (rp i) k hd).mono ?_
    rintro e w4 ⟨rfl, b4⟩
    exact ⟨rfl, F3e.less (F3e.below (F3e.below (F3e.below h b2) b3) b4) nofun⟩
  · have hok : k.ok := ⟨hk.n, hk.d, hd⟩
    obtain ⟨own, hF⟩ := h
    obtain ⟨tg, S, h1, h2⟩ := hF.h i hi
    refine ⟨(L i).length, 0, upd L i (L i ++ [⟨k, true⟩]), ?_, ?_⟩
    · have := tot_upd L (L i ++ [⟨k, true⟩]) hi
      rw [List.length_append] at this
      have e1 : [(⟨k, true⟩ : RE)].length = 1 := rfl
      omega
    refine (insert_C h1 k hok (by omega) (by omega)).mono ?_
    rintro e w2 ⟨rfl, S', tg', g1, g2⟩
    obtain ⟨f1, f2⟩ := hF.left hi h2 g1 g2
    refine ⟨rfl, f2, fun w3 b3 => ?_⟩
    obtain ⟨own3, f3⟩ := f1.below b3
    obtain ⟨v, r1, r2, r3⟩ := f3.r i hi
    obtain ⟨q, c, rfl⟩ := r1.shape
    refine (rins_raw w3 (rp i) (L i) (L i).length q c k (by omega) hd rfl r1).mono ?_
    rintro e w4 ⟨rfl, v', R⟩
    obtain ⟨f4, _⟩ := f3.right hi r2 r3 R.r ((f3.ok i hi).push hok) R.kp R.lo ⟨r1.blk, fun _ q => r1.lt q⟩
    refine ⟨rfl, ft_mk (f4.less nofun) (rcont_push _ _) (by rw [List.length_append]; rfl) (rcount_push _ _)⟩
/-- Min -/
theorem st2 (h : Ft w0 w hp rp L T) (hi : i < 3) (ht : tot L < 1000) : ∃ (y : Nat) (k1 : K) (ee : Int), (∀ w1, Below w.heap.size w w1 → Calls Try.prog 20 #[.pointer (some ⟨hp i, 0, none⟩)] w1 fun e w2 => e = .returned (.tuple #[.int .i64 y, .agg #[.int .u64 k1.n, .int .u64 k1.d, .int .i64 k1.t], .int .i64 ee]) ∧ Below w1.heap.size w1 w2) ∧ ∀ w1, Below w.heap.size w w1 → Calls Try.prog 24 #[.pointer (some ⟨rp i, 0, none⟩)] w1 fun e w2 => e = .returned (.tuple #[.int .i64 y, .agg #[.int .u64 k1.n, .int .u64 k1.d, .int .i64 k1.t], .int .i64 ee]) ∧ Below w1.heap.size w1 w2 := by
  have htl := tot_at L hi
  have hle : (L i).length ≤ 1048576 := by omega
  have h0 := h
  obtain ⟨own, hF⟩ := h
  obtain ⟨tg, S, h1, h2⟩ := hF.h i hi
  by_cases hz : rcount (L i) = 0
  · rw [hz] at h1
    refine ⟨0, kz, 3, fun w1 b1 => min_zero fun w2 b2 => len_C ((h1.keep b1).keep b2), fun w1 b1 => (F3e.rmin (F3e.below h0 b1) hi hle).mono ?_⟩
    rintro e w2 ⟨he, b2⟩
    exact ⟨ea_zero he (rcount_none hz), b2⟩
  · obtain ⟨m, m1, m2, m3, _⟩ := min_C h1 hz
    refine ⟨S.hd m, S.ky m, 0, fun w1 b1 => ?_, fun w1 b1 => (F3e.rmin (F3e.below h0 b1) hi hle).mono ?_⟩
    · obtain ⟨m', q1, _, _, q4⟩ := min_C (h1.keep b1) hz
      have : m' = m := by rw [m1] at q1; exact (Option.some.inj q1).symm
      subst this
      exact q4
    · rintro e w2 ⟨he, b2⟩
      exact ⟨(ea_one he m3).1, b2⟩
/-- Pop -/
theorem st3 (h : Ft w0 w hp rp L T) (hi : i < 3) (ht : tot L < 1000) : ∃ (y : Nat) (k1 : K) (ee : Int) (L' : Nat → List RE), tot L' ≤ tot L ∧ (ee = 0 → rcount (L' i) + 1 = rcount (L i)) ∧ (ee ≠ 0 → L' = L) ∧ Calls Try.prog 15 #[.pointer (some ⟨hp i, 0, none⟩)] w fun e w2 => e = .returned (.tuple #[.int .i64 y, .agg #[.int .u64 k1.n, .int .u64 k1.d, .int .i64 k1.t], .int .i64 ee]) ∧ Hid (∀ w3, w3 = w2.alloc (.cells (ky3 k1) 37) → Calls Try.prog 25 #[.pointer (some ⟨rp i, 0, none⟩)] w3 fun e w4 => e = .returned (.tuple #[.int .i64 y, .agg #[.int .u64 k1.n, .int .u64 k1.d, .int .i64 k1.t], .int .i64 ee]) ∧ Hid (w4.heap[w2.heap.size]? = some (.cells (ky3 k1) 37 (0, 0)) ∧ Ft w0 w4 hp rp L' NoP)) := by
  have htl := tot_at L hi
  have hrc := rcount_le (L i)
  have hle : (L i).length ≤ 1048576 := by omega
  have h0 := h
  obtain ⟨own, hF⟩ := h
  obtain ⟨tg, S, h1, h2⟩ := hF.h i hi
  by_cases hz : rcount (L i) = 0
  · rw [hz] at h1
    refine ⟨0, kz, 3, L, Nat.le_refl _, by omega, fun _ => rfl, (pop_none h1).mono ?_⟩
    rintro e w2 ⟨rfl, b⟩
    refine ⟨rfl, fun w3 e3 => ?_⟩
    subst e3
    have t3 := F3e.box (F3e.below h0 b) (.cells (ky3 kz) 37)
    refine (rpop_none (fun w4 b4 => ?_)).mono ?_
    · refine (F3e.rmin (F3e.below t3 b4) hi hle).mono ?_
      rintro e w5 ⟨he, b5⟩
      exact ⟨ea_zero he (rcount_none hz), b5⟩
    · rintro e w4 ⟨rfl, b4⟩
      exact ⟨rfl, at_below b4 (Nat.le_refl _) new0, F3e.less (F3e.below t3 b4) nofun⟩
  · obtain ⟨y, k1, g1, g2, g3⟩ := pop_C h1 hz (by omega)
    have hly : (L i)[y]? = some ⟨k1, true⟩ := by
      obtain ⟨j, e1, e2⟩ := rcont_some g1.1
      have : y = j := by omega
      rw [this]; exact e2
    refine ⟨y, k1, 0, upd L i ((L i).set y re0), ?_, fun _ => ?_, fun q => absurd rfl q, g3.mono ?_⟩
    · have := tot_upd L ((L i).set y re0) hi
      rw [List.length_set] at this
      omega
    · rw [upd_same, rcount_del hly]; omega
    rintro e w2 ⟨rfl, S', tg', g4, g5⟩
    obtain ⟨f1, f2⟩ := hF.left hi h2 g4 g5
    refine ⟨rfl, fun w3 e3 => ?_⟩
    subst e3
    have t3 := F3e.box f1 (.cells (ky3 k1) 37)
    have t3' := t3
    obtain ⟨own3, f3⟩ := t3
    obtain ⟨v, r1, r2, r3⟩ := f3.r i hi
    refine (rpop_some r1 y _ k1 hly (fun w4 b4 => ?_)).mono ?_
    · refine (F3e.rmin (F3e.below t3' b4) hi hle).mono ?_
      rintro e w5 ⟨he, b5⟩
      exact ⟨(ea_one he g1).1, b5⟩
    · rintro e w4 ⟨rfl, R, kp⟩
      obtain ⟨q1, q2⟩ := F3e.rset t3' hi own3 f3 r1 r2 r3 R ((f3.ok i hi).set (by intro q; cases q)) kp
      exact ⟨rfl, (q2 _ (.inr rfl)).trans new0, ft_mk (q1.less nofun) (rcont_del hly) List.length_set (rcount_del hly)⟩
/-- Decrease -/
theorem st4 (h : Ft w0 w hp rp L T) (hi : i < 3) (hk : Kw k) (hx : (Lit.int .i64 x).wf = true) (ht : tot L < 1000) : ∃ (ee : Int) (L' : Nat → List RE), tot L' ≤ tot L ∧ Calls Try.prog 19 #[.pointer (some ⟨hp i, 0, none⟩), .int .i64 x, .agg #[.int .u64 k.n, .int .u64 k.d, .int .i64 k.t]] w fun e w2 => e = .returned (.int .i64 ee) ∧ Hid (Kt T w w2 ∧ ∀ w3, Below w2.heap.size w2 w3 → Calls Try.prog 26 #[.pointer (some ⟨rp i, 0, none⟩), .int .i64 x, .agg #[.int .u64 k.n, .int .u64 k.d, .int .i64 k.t]] w3 fun e w4 => e = .returned (.int .i64 ee) ∧ Hid (Kt T w3 w4 ∧ Ft w0 w4 hp rp L' NoP)) := by
  have htl := tot_at L hi
  have hrc := rcount_le (L i)
  have h0 := h
  obtain ⟨own, hF⟩ := h
  obtain ⟨tg, S, h1, h2⟩ := hF.h i hi
  cases hc : rcont (L i) x with
  | none =>
    refine ⟨3, L, Nat.le_refl _, (dec_C0 h1 x hx k hc).mono ?_⟩
    rintro e w2 ⟨rfl, b2⟩
    refine ⟨rfl, F3e.kept h0 b2, fun w3 b3 => (rdec_no x k fun w1 b1 => ?_).mono ?_⟩
    · have := F3e.rget (F3e.below (F3e.below (F3e.below h0 b2) b3) b1) hi x
      rw [hc] at this
      exact this
    · rintro e w4 ⟨rfl, b4⟩
      exact ⟨rfl, F3e.kept (F3e.below (F3e.below h0 b2) b3) b4, F3e.less (F3e.below (F3e.below (F3e.below h0 b2) b3) b4) nofun⟩
  | some old =>
    obtain ⟨y, e1, hly⟩ := rcont_some hc
    subst e1
    have hok2 : old.ok := hF.ok i hi _ (List.mem_of_getElem? hly) rfl
    by_cases hd : k.d = 0
    · refine ⟨4, L, Nat.le_refl _, (dec_C4 h1 y hx k hc hd).mono ?_⟩
      rintro e w2 ⟨rfl, b2⟩
      refine ⟨rfl, F3e.kept h0 b2, fun w3 b3 => (rdec_form y k old hd fun w1 b1 => ?_).mono ?_⟩
      · have := F3e.rget (F3e.below (F3e.below (F3e.below h0 b2) b3) b1) hi y
        rw [hc] at this
        exact this
      · rintro e w4 ⟨rfl, b4⟩
        exact ⟨rfl, F3e.kept (F3e.below (F3e.below h0 b2) b3) b4, F3e.less (F3e.below (F3e.below (F3e.below h0 b2) b3) b4) nofun⟩
    · have hok : k.ok := ⟨hk.n, hk.d, hd⟩
      by_cases hgt : kl old k
      · refine ⟨2, L, Nat.le_refl _, (dec_C2 h1 y hx k hc hok hgt).mono ?_⟩
        rintro e w2 ⟨rfl, b2⟩
        refine ⟨rfl, F3e.kept h0 b2, fun w3 b3 => (rdec_more y k old (rc k old) hd (by rw [rc_kc hd hok2.z]; exact kc_pos.2 hgt) (fun w => rcompare_any k old w hk.n hk.d hok2.n hok2.d) fun w1 b1 => ?_).mono ?_⟩
        · have := F3e.rget (F3e.below (F3e.below (F3e.below h0 b2) b3) b1) hi y
          rw [hc] at this
          exact this
        · rintro e w4 ⟨rfl, b4⟩
          exact ⟨rfl, F3e.kept (F3e.below (F3e.below h0 b2) b3) b4, F3e.less (F3e.below (F3e.below (F3e.below h0 b2) b3) b4) nofun⟩
      · refine ⟨0, upd L i ((L i).set y ⟨k, true⟩), ?_, (dec_C h1 hc hok hgt (by omega)).mono ?_⟩
        · have := tot_upd L ((L i).set y ⟨k, true⟩) hi
          rw [List.length_set] at this
          omega
        rintro e w2 ⟨rfl, S', tg', g4, g5⟩
        obtain ⟨f1, f2⟩ := hF.left hi h2 g4 g5
        refine ⟨rfl, f2, fun w3 b3 => ?_⟩
        have t3 := f1.below b3
        have t3' := t3
        obtain ⟨own3, f3⟩ := t3
        obtain ⟨v, r1, r2, r3⟩ := f3.r i hi
        refine (rdec_less r1 y k old (rc k old) hly hd (by rw [rc_kc hd hok2.z]; exact fun q => hgt (kc_pos.1 q)) (fun w => rcompare_any k old w hk.n hk.d hok2.n hok2.d) fun w1 b1 => ?_).mono ?_
        · have := F3e.rget (F3e.below t3' b1) hi y
          rw [hc] at this
          exact this
        · rintro e w4 ⟨rfl, R, kp⟩
          obtain ⟨q1, q2⟩ := F3e.rset t3' hi own3 f3 r1 r2 r3 R ((f3.ok i hi).set fun _ => hok) kp
          exact ⟨rfl, q2, ft_mk (q1.less nofun) (rcont_upd hly) List.length_set (rcount_upd hly)⟩
/-- Delete -/
theorem st5 (h : Ft w0 w hp rp L T) (hi : i < 3) (hx : (Lit.int .i64 x).wf = true) (ht : tot L < 1000) : ∃ (ee : Int) (L' : Nat → List RE), tot L' ≤ tot L ∧ Calls Try.prog 22 #[.pointer (some ⟨hp i, 0, none⟩), .int .i64 x] w fun e w2 => e = .returned (.int .i64 ee) ∧ Hid (Kt T w w2 ∧ Calls Try.prog 27 #[.pointer (some ⟨rp i, 0, none⟩), .int .i64 x] w2 fun e w4 => e = .returned (.int .i64 ee) ∧ Hid (Kt T w w4 ∧ Ft w0 w4 hp rp L' NoP)) := by
  have htl := tot_at L hi
  have hrc := rcount_le (L i)
  have h0 := h
  obtain ⟨own, hF⟩ := h
  obtain ⟨tg, S, h1, h2⟩ := hF.h i hi
  cases hc : rcont (L i) x with
  | none =>
    refine ⟨3, L, Nat.le_refl _, (del_C0 h1 x hx hc).mono ?_⟩
    rintro e w2 ⟨rfl, rfl⟩
    refine ⟨rfl, fun _ _ => rfl, (rdel_no x ?_).mono ?_⟩
    · have := F3e.rget h0 hi x
      rw [hc] at this
      exact this
    · rintro e w4 ⟨rfl, b4⟩
      exact ⟨rfl, F3e.kept h0 b4, F3e.less (F3e.below h0 b4) nofun⟩
  | some old =>
    obtain ⟨y, e1, hly⟩ := rcont_some hc
    subst e1
    obtain ⟨y', ey, g⟩ := del_C h1 (by omega) y hx hc
    have hyj : y' = y := by omega
    subst hyj
    refine ⟨0, upd L i ((L i).set y' re0), ?_, g.mono ?_⟩
    · have := tot_upd L ((L i).set y' re0) hi
      rw [List.length_set] at this
      omega
    rintro e w2 ⟨rfl, S', tg', g4, g5⟩
    obtain ⟨f1, f2⟩ := hF.left hi h2 g4 g5
    have f1' := f1
    refine ⟨rfl, f2, ?_⟩
    obtain ⟨own3, f3⟩ := f1
    obtain ⟨v, r1, r2, r3⟩ := f3.r i hi
    refine (rdel_yes r1 y' old.n old.d old.t (List.getElem?_eq_some_iff.1 hly).1 (by omega) ?_).mono ?_
    · have := F3e.rget f1' hi y'
      rw [hc] at this
      exact this
    · rintro e w4 ⟨rfl, R, kp⟩
      obtain ⟨q1, q2⟩ := F3e.rset f1' hi own3 f3 r1 r2 r3 R ((f3.ok i hi).set (by intro q; cases q)) kp
      exact ⟨rfl, Kt.trans f2 q2, ft_mk (q1.less nofun) (rcont_del hly) List.length_set (rcount_del hly)⟩
/-- Get -/
theorem st6 (h : Ft w0 w hp rp L T) (hi : i < 3) (hx : (Lit.int .i64 x).wf = true) : ∃ (k1 : K) (ee : Int), (∀ w1, Below w.heap.size w w1 → Calls Try.prog 18 #[.pointer (some ⟨hp i, 0, none⟩), .int .i64 x] w1 fun e w2 => e = .returned (.tuple #[.agg #[.int .u64 k1.n, .int .u64 k1.d, .int .i64 k1.t], .int .i64 ee]) ∧ Below w1.heap.size w1 w2) ∧ ∀ w1, Below w.heap.size w w1 → Calls Try.prog 28 #[.pointer (some ⟨rp i, 0, none⟩), .int .i64 x] w1 fun e w2 => e = .returned (.tuple #[.agg #[.int .u64 k1.n, .int .u64 k1.d, .int .i64 k1.t], .int .i64 ee]) ∧ Below w1.heap.size w1 w2 := by
  have hL : ∀ w1, Below w.heap.size w w1 → _ := fun w1 b1 => F3e.rget (F3e.below h b1) hi x
  obtain ⟨own, hF⟩ := h
  obtain ⟨tg, S, h1, h2⟩ := hF.h i hi
  have hP : ∀ w1, Below w.heap.size w w1 → _ := fun w1 b1 => get_C (h1.keep b1) x hx
  cases hc : rcont (L i) x with
  | none =>
    rw [hc] at hL hP
    exact ⟨kz, 3, hP, hL⟩
  | some old =>
    rw [hc] at hL hP
    exact ⟨old, 0, hP, hL⟩
/-- Meld -/
theorem st7 (h : Ft w0 w hp rp L T) (hi : i < 3) (hj : j < 3) (hij : i ≠ j) (ht : tot L < 1000) : Calls Try.prog 21 #[.pointer (some ⟨hp i, 0, none⟩), .pointer (some ⟨hp j, 0, none⟩)] w fun e w2 => e = .returned (.tuple #[.int .i64 (L i).length, .int .i64 0]) ∧ Hid (Kt T w w2 ∧ Calls Try.prog 29 #[.pointer (some ⟨rp i, 0, none⟩), .pointer (some ⟨rp j, 0, none⟩)] w2 fun e w4 => e = .returned (.tuple #[.int .i64 (L i).length, .int .i64 0]) ∧ Hid (Ft w0 w4 hp rp (upd (upd L j []) i (L i ++ L j)) NoP)) := by
  have htl := tot_two L hi hj hij
  have r1 := rcount_le (L i)
  have r2 := rcount_le (L j)
  refine (F3e.meldL h hi hj hij (by omega) (by omega)).mono ?_
  rintro e w2 ⟨rfl, f1, f2⟩
  refine ⟨rfl, f2, (F3e.meldR f1 hi hj hij (by omega)).mono ?_⟩
  rintro e w4 ⟨rfl, f3, _⟩
  refine ⟨rfl, ?_⟩
  unfold Hid Ft
  rw [upd_map rcont, upd_map List.length, upd_map rcount, upd_map rcont, upd_map List.length, upd_map rcount, rcont_app, rcount_app, List.length_append, rcont_nil]
  exact f3.less nofun
/-- Len -/
theorem stL (h : Ft w0 w hp rp L T) (hi : i < 3) (ht : tot L < 1000) : (Calls Try.prog 11 #[.pointer (some ⟨hp i, 0, none⟩)] w fun e w2 => e = .returned (.int .i64 (rcount (L i) : Nat)) ∧ w2 = w) ∧ Calls Try.prog 12 #[.pointer (some ⟨rp i, 0, none⟩)] w fun e w2 => e = .returned (.int .i64 (rcount (L i) : Nat)) ∧ w2 = w := by
  have htl := tot_at L hi
  obtain ⟨own, hF⟩ := h
  obtain ⟨tg, S, h1, h2⟩ := hF.h i hi
  obtain ⟨v, r1, _⟩ := hF.r i hi
  exact ⟨len_C h1, rlen_any r1 (by omega)⟩
end
end Go.Proofs.Ytmcmldlnmmbbgaa

namespace Go.Proofs.Ytmcmldlnmmbbgaa
open Go.RowKit Go.Maps

def pt (b : Nat) : Value := .pointer (some ⟨b, 0, none⟩)
/-- a call's box -/
def ob (kd h x : Int) (k : K) : Array Value := #[.int .i64 kd, .int .i64 h, .int .i64 x, .int .u64 k.n, .int .u64 k.d, .int .i64 k.t]
def p3 (f : Nat → Nat) : Array Value := #[.pointer (some ⟨f 0, 0, none⟩), .pointer (some ⟨f 1, 0, none⟩), .pointer (some ⟨f 2, 0, none⟩)]
theorem c6 {w : World} {g : Nat} {a b c d e f : Value} {t : TypeId} (h : w.heap[g]? = some (.cells #[a, b, c, d, e, f] t (0, 0))) : w.cell? ⟨g, 0, none⟩ = some a ∧ w.cell? ⟨g, 1, none⟩ = some b ∧ w.cell? ⟨g, 2, none⟩ = some c ∧ w.cell? ⟨g, 3, none⟩ = some d ∧ w.cell? ⟨g, 4, none⟩ = some e ∧ w.cell? ⟨g, 5, none⟩ = some f := by
  unfold World.cell?
  rw [h]
  simp
theorem cp3 {w : World} {g : Nat} {f : Nat → Nat} {t : TypeId} (h : w.heap[g]? = some (.cells (p3 f) t (0, 0))) {i : Nat} (hi : i < 3) : w.cell? ⟨g, i, none⟩ = some (.pointer (some ⟨f i, 0, none⟩)) := by
  unfold p3 at h
  obtain ⟨a, b, c⟩ := c3 h
  rcases (by omega : i = 0 ∨ i = 1 ∨ i = 2) with rfl | rfl | rfl
  · exact a
  · exact b
  · exact c
/-- three heaps of each side and the step's boxes -/
structure Bx (w0 : Fx) (w : World) (hp rp : Nat → Nat) (L : Nat → List RE) (b : Nat) (kd h x : Int) (k : K) : Prop where
  t : Ft w0 w hp rp L (fun j => (j = b ∨ j = b + 1) ∨ j = b + 1 + 1)
  z0 : w.heap[b]? = some (.cells (p3 hp) 26 (0, 0))
  z1 : w.heap[b + 1]? = some (.cells (p3 rp) 31 (0, 0))
  z2 : w.heap[b + 1 + 1]? = some (.cells (ob kd h x k) 39 (0, 0))
theorem bx_new {w0 : Fx} {w : World} {hp rp : Nat → Nat} {L : Nat → List RE} (h : Ft w0 w hp rp L NoP) (kd hh x : Int) (k : K) : Bx w0 (((w.alloc (.cells (p3 hp) 26)).alloc (.cells (p3 rp) 31)).alloc (.cells (ob kd hh x k) 39)) hp rp L w.heap.size kd hh x k := by
  have e1 : (w.alloc (.cells (p3 hp) 26)).heap.size = w.heap.size + 1 := by simp
  have e2 : ((w.alloc (.cells (p3 hp) 26)).alloc (.cells (p3 rp) 31)).heap.size = w.heap.size + 1 + 1 := by simp
  refine ⟨?_, at_alloc (at_alloc new0), at_alloc ?_, ?_⟩
  · have h3 := F3e.box (F3e.box (F3e.box h (.cells (p3 hp) 26)) (.cells (p3 rp) 31)) (.cells (ob kd hh x k) 39)
    refine F3e.less h3 fun j q => ?_
    rw [e1, e2]
    rcases q with (q | q) | q
    · exact .inl (.inl (.inr q))
    · exact .inl (.inr q)
    · exact .inr q
  · rw [← e1]; exact new0
  · rw [← e2]; exact new0
theorem Bx.below {w0 : Fx} {w w' : World} {hp rp : Nat → Nat} {L : Nat → List RE} {b : Nat} {kd h x : Int} {k : K} (H : Bx w0 w hp rp L b kd h x k) (q : Below w.heap.size w w') : Bx w0 w' hp rp L b kd h x k := ⟨F3e.below H.t q, at_below q (Nat.le_refl _) H.z0, at_below q (Nat.le_refl _) H.z1, at_below q (Nat.le_refl _) H.z2⟩
/-- which heap -/
theorem idx3 (h : Int) : ∃ i : Nat, i < 3 ∧ wrap64 ((IntKind.u64.wrap h).tmod 3) = (i : Int) := by
  have h0 : 0 ≤ IntKind.u64.wrap h := by
    unfold IntKind.wrap
    simp [IntKind.signed, IntKind.bits]
    omega
  generalize IntKind.u64.wrap h = x at *
  refine ⟨(x % 3).toNat, by omega, ?_⟩
  rw [Int.tmod_eq_emod_of_nonneg h0]
  unfold wrap64
  omega
/-- behind a step -/
def Sr3 (w0 : Fx) (w : World) (hp rp : Nat → Nat) (L : Nat → List RE) : Prop := ∃ L', tot L' ≤ tot L + 1 ∧ Ft w0 w hp rp L' NoP
theorem Kt.at {T : Nat → Prop} {w w2 : World} {j : Nat} {o : Obj} (h : Kt T w w2) (ht : T j) (hz : w.heap[j]? = some o) : w2.heap[j]? = some o := (h j ht).trans hz
section
variable {w0 : Fx} {w : World} {hp rp : Nat → Nat} {L : Nat → List RE} {h x : Int} {k : K}
set_option maxHeartbeats 4000000 in
set_option maxRecDepth 100000 in
theorem step_1 (hF : Hid (Ft w0 w hp rp L NoP)) (hk : Hid (Kw k)) (_hx : Hid ((Lit.int .i64 x).wf = true)) (hn : Hid (tot L < 1000)) : Calls Try.prog 10 #[.agg #[.pointer (some ⟨hp 0, 0, none⟩), .pointer (some ⟨hp 1, 0, none⟩), .pointer (some ⟨hp 2, 0, none⟩)], .agg #[.pointer (some ⟨rp 0, 0, none⟩), .pointer (some ⟨rp 1, 0, none⟩), .pointer (some ⟨rp 2, 0, none⟩)], .agg #[.int .i64 1, .int .i64 h, .int .i64 x, .int .u64 k.n, .int .u64 k.d, .int .i64 k.t]] w fun e w' => e = .returned (.bool true) ∧ Sr3 w0 w' hp rp L := by
  have HB0 : Hid (Bx w0 (((w.alloc (.cells (p3 hp) 26)).alloc (.cells (p3 rp) 31)).alloc (.cells (ob 1 h x k) 39)) hp rp L w.heap.size 1 h x k) := bx_new hF.out 1 h x k
  clear hF
  unfold p3 ob at HB0
  go_enter Try.func10, Try.ntmps10
  go_upto_region 1 with fail
  generalize ((w.alloc (.cells #[.pointer (some ⟨hp 0, 0, none⟩), .pointer (some ⟨hp 1, 0, none⟩), .pointer (some ⟨hp 2, 0, none⟩)] 26)).alloc (.cells #[.pointer (some ⟨rp 0, 0, none⟩), .pointer (some ⟨rp 1, 0, none⟩), .pointer (some ⟨rp 2, 0, none⟩)] 31)).alloc (.cells #[.int .i64 1, .int .i64 h, .int .i64 x, .int .u64 k.n, .int .u64 k.d, .int .i64 k.t] 39) = W0 at *
  generalize w.heap.size = b at *
  obtain ⟨x0, x1, x2, x3, x4, x5⟩ := c6 HB0.out.z2
  go_upto_region 2 with fail
  obtain ⟨i, hi, ei⟩ := idx3 h
  rw [ei]
  clear ei x0 x1 x2 x3 x4 x5
  have HI : Hid (i < 3) := hi
  have y0 := cp3 HB0.out.z0 hi
  have y1 := cp3 HB0.out.z1 hi
  have i0 : 0 ≤ (i : Int) := by omega
  have i3 : (i : Int) < 3 := by omega
  have i4 : ((i : Int)).toNat = i := by omega
  clear hi
  go_quiet (fail)
  have HB : Hid (Bx w0 (W0.drewN nq) hp rp L b 1 h x k) := HB0.out.below (below_drewN (Below.refl _ W0) nq)
  clear y0 y1 HB0
  generalize W0.drewN nq = W at *
  obtain ⟨x0, x1, x2, x3, x4, x5⟩ := c6 HB.out.z2
  obtain ⟨y, ee, L', hL', hc⟩ := st1 HB.out.t HI.out hk.out hn.out
  have HL : Hid (tot L' ≤ tot L + 1) := hL'
  have H14 : Hid (Calls Try.prog 14 #[.pointer (some ⟨hp i, 0, none⟩), .agg #[.int .u64 k.n, .int .u64 k.d, .int .i64 k.t]] W fun e w2 => e = .returned (.tuple #[.int .i64 y, .int .i64 ee]) ∧ Hid (Kt (fun j => (j = b ∨ j = b + 1) ∨ j = b + 1 + 1) W w2 ∧ ∀ w3, Below w2.heap.size w2 w3 → Calls Try.prog 23 #[.pointer (some ⟨rp i, 0, none⟩), .agg #[.int .u64 k.n, .int .u64 k.d, .int .i64 k.t]] w3 fun e w4 => e = .returned (.tuple #[.int .i64 y, .int .i64 ee]) ∧ Hid (Ft w0 w4 hp rp L' NoP))) := hc
  clear hc hL'
  go_upto_region 6 with (go_at_call 14; refine H14.out.mono ?_; first | rintro e w2 rfl h2 | rintro e w2 ⟨rfl, h2⟩)
  clear x0 x1 x2 x3 x4 x5
  obtain ⟨x0, x1, x2, x3, x4, x5⟩ := c6 (h2.out.1.at (.inr rfl) HB.out.z2)
  have H23 : Hid (∀ w3, Below w2.heap.size w2 w3 → Calls Try.prog 23 #[.pointer (some ⟨rp i, 0, none⟩), .agg #[.int .u64 k.n, .int .u64 k.d, .int .i64 k.t]] w3 fun e w4 => e = .returned (.tuple #[.int .i64 y, .int .i64 ee]) ∧ Hid (Ft w0 w4 hp rp L' NoP)) := h2.out.2
  clear h2 HB H14
  have H17 := plain_any k.n k.d k.t w2
  go_wp2_with (first | (go_at_call 17; refine H17.mono ?_; rintro e w3 ⟨rfl, b3⟩; have H24 := H23.out w3 b3) | (go_at_call 23; refine H24.mono ?_; first | rintro e w4 rfl h4 | rintro e w4 ⟨rfl, h4⟩))
  go_ret
  exact ⟨by simp, L', HL.out, h4.out⟩
end
end Go.Proofs.Ytmcmldlnmmbbgaa
