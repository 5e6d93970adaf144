/-
  Both heaps in a law: the program's and the reference's, apart; each call on both.
-/
import Derived.Test.YtbaffgkopgbknaaZg
import Derived.Test.YtbaffgkopgbknaaZh
import Derived.Test.YtbaffgkopgbknaaLf
namespace Go.Proofs.Ytbaffgkopgbknaa
open Go.RowKit Go.Maps

section
variable {l : List RE} {k o : K} {j : Nat} {x : Int}
theorem rcont_some (h : rcont l x = some k) : ∃ j : Nat, x = (j : Int) ∧ l[j]? = some ⟨k, true⟩ := by
  unfold rcont at h
  split at h
  · cases h
  · rename_i h0
    obtain ⟨i, rfl⟩ : ∃ i : Nat, x = i := ⟨x.toNat, by omega⟩
    rw [show ((i : Int)).toNat = i by omega] at h
    cases hi : l[i]? with
    | none => rw [hi] at h; cases h
    | some e =>
      rw [hi] at h
      obtain ⟨ek, eo⟩ := e
      cases eo with
      | false => simp at h
      | true => simp at h; rw [h] at hi; exact ⟨i, rfl, hi⟩
theorem rcont_ext {l' : List RE} {C : Ct} (h : ∀ j : Nat, (match l'[j]? with | some e => if e.on then some e.k else none | none => none) = C j) (hn : ∀ x : Int, x < 0 → C x = none) : rcont l' = C := by
  funext x
  unfold rcont
  by_cases h0 : x < 0
  · rw [if_pos h0, hn x h0]
  · rw [if_neg h0]
    obtain ⟨i, rfl⟩ : ∃ i : Nat, x = i := ⟨x.toNat, by omega⟩
    exact h i
theorem rcont_neg (h : x < 0) : rcont l x = none := if_pos h
theorem rcont_nat (l : List RE) (j : Nat) : rcont l j = match l[j]? with | some e => if e.on then some e.k else none | none => none := by
  unfold rcont
  rw [if_neg (by omega)]
  rfl
theorem rcont_push (l : List RE) (k : K) : rcont (l ++ [⟨k, true⟩]) = (rcont l).put l.length k := by
  refine rcont_ext (fun j => ?_) (fun x h => ?_)
  · unfold Ct.put
    by_cases e : j = l.length
    · subst e
      rw [if_pos rfl, List.getElem?_append_right (Nat.le_refl _), Nat.sub_self]
      rfl
    · rw [if_neg (by omega), rcont_nat]
      by_cases q : j < l.length
      · rw [List.getElem?_append_left q]
      · rw [List.getElem?_eq_none (by rw [List.length_append]; simp; omega), List.getElem?_eq_none (by omega)]
  · unfold Ct.put
    rw [if_neg (by omega)]
    exact rcont_neg h
theorem rcont_set {e e' : RE} (h : l[j]? = some e') : rcont (l.set j e) = fun x => if x = (j : Int) then (if e.on then some e.k else none) else rcont l x := by
  have hj : j < l.length := (List.getElem?_eq_some_iff.1 h).1
  refine rcont_ext (fun i => ?_) (fun x h => ?_)
  · by_cases q : i = j
    · subst q
      rw [if_pos rfl, List.getElem?_set_self hj]
    · rw [if_neg (by omega), List.getElem?_set_ne (fun e => q e.symm), rcont_nat]
  · rw [if_neg (by omega)]
    exact rcont_neg h
theorem rcont_del {e : RE} (h : l[j]? = some e) : rcont (l.set j re0) = (rcont l).del j := by
  rw [rcont_set h]
  rfl
theorem rcont_upd {e : RE} (h : l[j]? = some e) : rcont (l.set j ⟨k, true⟩) = (rcont l).put j k := by
  rw [rcont_set h]
  rfl
theorem rcount_push (l : List RE) (k : K) : rcount (l ++ [⟨k, true⟩]) = rcount l + 1 := by
  unfold rcount
  rw [List.countP_append]
  rfl
theorem countP_set : ∀ (l : List RE) (j : Nat) (e e' : RE), l[j]? = some e' → (l.set j e).countP (·.on) + (if e'.on then 1 else 0) = l.countP (·.on) + (if e.on then 1 else 0)
  | [], j, e, e', h => by simp at h
  | p :: l, 0, e, e', h => by
    have q : p = e' := by simpa using h
    subst q
    rw [List.set_cons_zero, List.countP_cons, List.countP_cons]
    omega
  | p :: l, j + 1, e, e', h => by
    rw [List.set_cons_succ, List.countP_cons, List.countP_cons]
    have := countP_set l j e e' (by simpa using h)
    omega
theorem rcount_del (h : l[j]? = some ⟨o, true⟩) : rcount (l.set j re0) = rcount l - 1 := by
  have := countP_set l j re0 _ h
  unfold rcount
  simp [re0] at this ⊢
  omega
theorem rcount_upd (h : l[j]? = some ⟨o, true⟩) : rcount (l.set j ⟨k, true⟩) = rcount l := by
  have := countP_set l j ⟨k, true⟩ _ h
  unfold rcount
  simp at this ⊢
  omega
end
/-- both heaps, and blocks of somebody else's -/
structure Bm (w0 w : World) (hb rb : Nat) (C : Ct) (g n : Nat) (l : List RE) (T : Nat → Prop) : Prop where
  ex : ∃ S v, Hc w hb C g n S ∧ Rf w rb v l ∧ (∀ k, Fp hb S k → w0.heap.size ≤ k ∧ k ≠ rb ∧ v.ownBlock ≠ some k ∧ ¬ T k) ∧ (∀ k, (k = rb ∨ v.ownBlock = some k) → w0.heap.size ≤ k ∧ ¬ T k)
  ok : ∀ e ∈ l, e.k.ok
  b : Below w0.heap.size w0 w
  t : ∀ k, T k → k < w.heap.size
def Bt (w0 w : World) (hb rb : Nat) (l : List RE) (T : Nat → Prop) : Prop := Bm w0 w hb rb (rcont l) l.length (rcount l) l T
section
variable {w0 w w' : World} {hb rb g n g' n' : Nat} {C C' : Ct} {l l' : List RE} {T T' : Nat → Prop} {k : K} {x : Int}
theorem Bm.below (h : Bm w0 w hb rb C g n l T) (b : Below w.heap.size w w') : Bm w0 w' hb rb C g n l T := by
  obtain ⟨S, v, h1, h2, h3, h4⟩ := h.ex
  exact ⟨⟨S, v, h1.below b, h2.keep b, h3, h4⟩, h.ok, h.b.trans (b.mono h.b.size), fun k hk => Nat.lt_of_lt_of_le (h.t k hk) b.size⟩
theorem Bm.less (h : Bm w0 w hb rb C g n l T) (hT : ∀ k, T' k → T k) : Bm w0 w hb rb C g n l T' := by
  obtain ⟨S, v, h1, h2, h3, h4⟩ := h.ex
  exact ⟨⟨S, v, h1, h2, fun k q => ⟨(h3 k q).1, (h3 k q).2.1, (h3 k q).2.2.1, fun t => (h3 k q).2.2.2 (hT k t)⟩, fun k q => ⟨(h4 k q).1, fun t => (h4 k q).2 (hT k t)⟩⟩, h.ok, h.b, fun k t => h.t k (hT k t)⟩
theorem Bm.box (h : Bm w0 w hb rb C g n l T) (o : Obj) : Bm w0 (w.alloc o) hb rb C g n l (fun k => T k ∨ k = w.heap.size) := by
  have b : Below w.heap.size w (w.alloc o) := (Below.refl _ w).alloc (Nat.le_refl _) _
  obtain ⟨S, v, h1, h2, h3, h4⟩ := h.ex
  refine ⟨⟨S, v, h1.below b, h2.keep b, fun k q => ⟨(h3 k q).1, (h3 k q).2.1, (h3 k q).2.2.1, ?_⟩, fun k q => ⟨(h4 k q).1, ?_⟩⟩, h.ok, h.b.trans (b.mono h.b.size), fun k hk => ?_⟩
  · rintro (t | t)
    · exact (h3 k q).2.2.2 t
    · have := h1.h.lt k q; omega
  · rintro (t | t)
    · exact (h4 k q).2 t
    · rcases q with q | q
      · have := h2.blk; omega
      · have := h2.lt q; omega
  · rcases hk with t | t
    · exact Nat.lt_of_lt_of_le (h.t k t) b.size
    · rw [t]; simp
/-- behind a call on the program's heap -/
theorem Bm.left {S S' : HS} {v : Value} (h : Bm w0 w hb rb C g n l T) (h2 : Rf w rb v l) (h3 : ∀ k, Fp hb S k → w0.heap.size ≤ k ∧ k ≠ rb ∧ v.ownBlock ≠ some k ∧ ¬ T k) (h4 : ∀ k, (k = rb ∨ v.ownBlock = some k) → w0.heap.size ≤ k ∧ ¬ T k) (hH : Hc w' hb C' g' n' S') (hC : Chg hb S S' w w') : Bm w0 w' hb rb C' g' n' l T ∧ ∀ k, T k → w'.heap[k]? = w.heap[k]? := by
  have kb : ∀ k, (k = rb ∨ v.ownBlock = some k) → w'.heap[k]? = w.heap[k]? := fun k q => hC.kp.block k (by rcases q with q | q; rw [q]; exact h2.blk; exact h2.lt q) fun q' => by
    rcases q with q | q
    · exact (h3 k q').2.1 q
    · exact (h3 k q').2.2.1 q
  refine ⟨⟨⟨S', v, hH, ⟨(kb rb (.inl rfl)).trans h2.b, ownsKeep h2.r fun g q => kb g (.inr q)⟩, fun k q => ?_, h4⟩, h.ok, h.b.trans (hC.kp.below h.b.size fun k hk q => by have := (h3 k q).1; omega), fun k t => Nat.lt_of_lt_of_le (h.t k t) hC.kp.size⟩, fun k t => hC.kp.block k (h.t k t) fun q => (h3 k q).2.2.2 t⟩
  rcases hC.fp k q with q | q
  · exact h3 k q
  · exact ⟨Nat.le_trans h.b.size q, fun e => by have := h2.blk; omega, fun e => by have := h2.lt e; omega, fun t => by have := h.t k t; omega⟩
/-- behind a call on the reference's -/
theorem Bm.right {S : HS} {v v' : Value} (h : Bm w0 w hb rb C g n l T) (h1 : Hc w hb C g n S) (h3 : ∀ k, Fp hb S k → w0.heap.size ≤ k ∧ k ≠ rb ∧ v.ownBlock ≠ some k ∧ ¬ T k) (h4 : ∀ k, (k = rb ∨ v.ownBlock = some k) → w0.heap.size ≤ k ∧ ¬ T k) (hR : Rf w' rb v' l') (hok : ∀ e ∈ l', e.k.ok) (kp : Kp (fun j => j = rb ∨ v.ownBlock = some j) w w') (lo : ∀ j, v'.ownBlock = some j → v.ownBlock = some j ∨ w.heap.size ≤ j) : Bm w0 w' hb rb C g n l' T ∧ ∀ k, T k → w'.heap[k]? = w.heap[k]? := by
  refine ⟨⟨⟨S, v', h1.keep fun k q => kp.block k (h1.h.lt k q) fun e => ?_, hR, fun k q => ⟨(h3 k q).1, (h3 k q).2.1, fun e => ?_, (h3 k q).2.2.2⟩, fun k q => ?_⟩, hok, h.b.trans (kp.below h.b.size fun k hk q => by have := (h4 k q).1; omega), fun k t => Nat.lt_of_lt_of_le (h.t k t) kp.size⟩, fun k t => kp.block k (h.t k t) fun q => (h4 k q).2 t⟩
  · rcases e with e | e
    · exact (h3 k q).2.1 e
    · exact (h3 k q).2.2.1 e
  · rcases lo k e with e | e
    · exact (h3 k q).2.2.1 e
    · have := h1.h.lt k q; omega
  · rcases q with q | q
    · exact h4 k (.inl q)
    · rcases lo k q with q | q
      · exact h4 k (.inr q)
      · exact ⟨Nat.le_trans h.b.size q, fun t => by have := h.t k t; omega⟩
theorem Bm.okC (h : Bm w0 w hb rb C g n l T) {y : Nat} (q : C y = some k) : k.ok ∧ y < 1048576 := by
  obtain ⟨S, v, h1, _⟩ := h.ex
  obtain ⟨o, z, e, h2, h3⟩ := h1.ok q
  exact ⟨o, by omega⟩
theorem Bm.none (h : Bm w0 w hb rb C g 0 l T) (x : Int) : C x = Option.none := by
  obtain ⟨S, v, h1, _⟩ := h.ex
  rw [← h1.c]
  cases q : S.cont x with
  | none => rfl
  | some k =>
    obtain ⟨b, k1, _⟩ := cont_some q
    rw [List.eq_nil_of_length_eq_zero h1.n] at k1
    cases k1
/-! ### the reference's calls -/
theorem bm_rins (h : Bm w0 w hb rb C g n l T) (k : K) (hk : k.ok) (hl : l.length < 1048576) : Calls Try.prog 22 #[.pointer (some ⟨rb, 0, none⟩), .agg #[.int .i64 k.a, .int .i64 k.b, .int .i64 k.c]] w fun e w' => e = .returned (.tuple #[.int .i64 l.length, .int .i64 0]) ∧ Bm w0 w' hb rb C g n (l ++ [⟨k, true⟩]) T ∧ ∀ k, T k → w'.heap[k]? = w.heap[k]? := by
  obtain ⟨S, v, h1, h2, h3, h4⟩ := h.ex
  obtain ⟨a, c, rfl⟩ := h2.shape
  refine (rins_raw w rb l l.length a c k hl rfl h2).mono ?_
  rintro e w' ⟨rfl, v', R⟩
  refine ⟨rfl, h.right h1 h3 h4 R.r (fun e he => ?_) R.kp R.lo⟩
  rcases List.mem_append.1 he with q | q
  · exact h.ok e q
  · rw [List.mem_singleton.1 q]; exact hk
theorem set_ok {l : List RE} {j : Nat} {e : RE} (h : ∀ e ∈ l, e.k.ok) (he : e.k.ok) : ∀ x ∈ l.set j e, x.k.ok := fun x hx => by
  rcases List.mem_or_eq_of_mem_set hx with q | q
  · exact h x q
  · rw [q]; exact he
theorem kz_ok' : kz.ok := ⟨⟨by decide, by decide⟩, ⟨by decide, by decide⟩, ⟨by decide, by decide⟩⟩
theorem bm_rget (h : Bm w0 w hb rb C g n l T) (x : Int) : Calls Try.prog 27 #[.pointer (some ⟨rb, 0, none⟩), .int .i64 x] w fun e w' => (match rcont l x with
    | some k => e = .returned (.tuple #[ktup k, .int .i64 0])
    | none => e = .returned (.tuple #[ktup kz, .int .i64 3])) ∧ Below w.heap.size w w' := by
  obtain ⟨S, v, h1, h2, h3, h4⟩ := h.ex
  exact rget_any h2 x
theorem bm_rrem0 (h : Bm w0 w hb rb C g n l T) (x : Int) (hx : rcont l x = none) : Calls Try.prog 26 #[.pointer (some ⟨rb, 0, none⟩), .int .i64 x] w fun e w' => e = .returned (.int .i64 3) ∧ Below w.heap.size w w' := by
  have := bm_rget h x
  rw [hx] at this
  exact rrem_no x this
theorem bm_rrem (h : Bm w0 w hb rb C g n l T) {j : Nat} {o : K} (hj : l[j]? = some ⟨o, true⟩) (hl : l.length ≤ 1048576) : Calls Try.prog 26 #[.pointer (some ⟨rb, 0, none⟩), .int .i64 j] w fun e w' => e = .returned (.int .i64 0) ∧ Bm w0 w' hb rb C g n (l.set j re0) T ∧ ∀ k, T k → w'.heap[k]? = w.heap[k]? := by
  have hg := bm_rget h j
  obtain ⟨S, v, h1, h2, h3, h4⟩ := h.ex
  rw [rcont_at hj] at hg
  refine (rrem_yes h2 j o (List.getElem?_eq_some_iff.1 hj).1 hl hg).mono ?_
  rintro e w' ⟨rfl, R, kp⟩
  exact ⟨rfl, h.right h1 h3 h4 R (set_ok h.ok kz_ok') (kp.mono fun _ _ q => .inr q) fun _ q => .inl q⟩
theorem bm_rupd0 (h : Bm w0 w hb rb C g n l T) (x : Int) (k : K) (hx : rcont l x = none) : Calls Try.prog 25 #[.pointer (some ⟨rb, 0, none⟩), .int .i64 x, .agg #[.int .i64 k.a, .int .i64 k.b, .int .i64 k.c]] w fun e w' => e = .returned (.int .i64 3) ∧ Below w.heap.size w w' :=
  rupd_no x k fun w1 b1 => by
    have := bm_rget (h.below b1) x
    rw [hx] at this
    exact this
theorem bm_rupd (h : Bm w0 w hb rb C g n l T) {j : Nat} {o : K} (hj : l[j]? = some ⟨o, true⟩) (k : K) (hk : k.ok) : Calls Try.prog 25 #[.pointer (some ⟨rb, 0, none⟩), .int .i64 j, .agg #[.int .i64 k.a, .int .i64 k.b, .int .i64 k.c]] w fun e w' => e = .returned (.int .i64 0) ∧ Bm w0 w' hb rb C g n (l.set j ⟨k, true⟩) T ∧ ∀ k, T k → w'.heap[k]? = w.heap[k]? := by
  have hg : ∀ w1, Below w.heap.size w w1 → Calls Try.prog 27 #[.pointer (some ⟨rb, 0, none⟩), .int .i64 j] w1 fun e w' => e = .returned (.tuple #[.agg #[.int .i64 o.a, .int .i64 o.b, .int .i64 o.c], .int .i64 0]) ∧ Below w1.heap.size w1 w' := fun w1 b1 => by
    have := bm_rget (h.below b1) j
    rw [rcont_at hj] at this
    exact this
  obtain ⟨S, v, h1, h2, h3, h4⟩ := h.ex
  refine (rupd_yes h2 j k o hj hg).mono ?_
  rintro e w' ⟨rfl, R, kp⟩
  exact ⟨rfl, h.right h1 h3 h4 R (set_ok h.ok hk) (kp.mono fun _ _ q => .inr q) fun _ q => .inl q⟩
/-- End on both sides, by a letter -/
theorem bm_rend (h : Bm w0 w hb rb C g n l T) (hl : l.length ≤ 1048576) (gr : Bool) : Calls Try.prog 28 #[.pointer (some ⟨rb, 0, none⟩), .bool gr] w fun e w' => Ea l (sOf gr) e ∧ Below w.heap.size w w' := by
  obtain ⟨S, v, h1, h2, h3, h4⟩ := h.ex
  cases gr with
  | false => exact rend_lo h2 hl h.ok
  | true => exact rend_hi h2 hl h.ok
theorem ea_one {l : List RE} {s x : Nat} {k : K} {e : Ending} (h : Ea l s e) (hs : s ≤ 1) (hx : (rcont l).ext s x k) (ok : ∀ (y : Nat) k', rcont l y = some k' → k'.ok ∧ y < 1048576) : e = .returned (.tuple #[.int .i64 x, ktup k, .int .i64 0]) ∧ l[x]? = some ⟨k, true⟩ := by
  rcases h with ⟨_, h⟩ | ⟨j, y, h1, h2, h3, h4⟩
  · have := hx.1; rw [h x] at this; cases this
  · obtain ⟨rfl, e2⟩ := ext_same hs hx h4 (ok _ _ hx.1).1 (ok _ _ h4.1).1 (ok _ _ hx.1).2 (ok _ _ h4.1).2
    subst e2
    refine ⟨h1, ?_⟩
    rw [h2]
    obtain ⟨yk, yo⟩ := y
    cases h3
    rfl
theorem ea_zero {l : List RE} {s : Nat} {e : Ending} (h : Ea l s e) (hn : ∀ x, rcont l x = none) : e = .returned (.tuple #[.int .i64 0, ktup kz, .int .i64 3]) := by
  rcases h with ⟨h, _⟩ | ⟨j, y, h1, h2, h3, h4⟩
  · exact h
  · have := h4.1; rw [hn j] at this; cases this
end
end Go.Proofs.Ytbaffgkopgbknaa
