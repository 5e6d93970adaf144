/-
  Two heaps in a law, apart.
-/
import Derived.Test.YtbaffgkopgbknaaLd
namespace Go.Proofs.Ytbaffgkopgbknaa
open Go.RowKit Go.Maps

structure Tw (w0 w : World) (ha : Nat) (Ca : Ct) (ga na hb : Nat) (Cb : Ct) (gb nb : Nat) (T : Nat → Prop) : Prop where
  ex : ∃ Sa Sb, Hc w ha Ca ga na Sa ∧ Hc w hb Cb gb nb Sb ∧ (∀ k, Fp ha Sa k → w0.heap.size ≤ k ∧ ¬ T k ∧ ¬ Fp hb Sb k) ∧ (∀ k, Fp hb Sb k → w0.heap.size ≤ k ∧ ¬ T k)
  b : Below w0.heap.size w0 w
  t : ∀ k, T k → k < w.heap.size
section
variable {w0 w w' : World} {ha hb ga na gb nb : Nat} {Ca Cb : Ct} {T T' : Nat → Prop} {k : K} {x : Int}
theorem Tw.swap (h : Tw w0 w ha Ca ga na hb Cb gb nb T) : Tw w0 w hb Cb gb nb ha Ca ga na T := by
  obtain ⟨Sa, Sb, h1, h2, h3, h4⟩ := h.ex
  exact ⟨⟨Sb, Sa, h2, h1, fun k q => ⟨(h4 k q).1, (h4 k q).2, fun q' => (h3 k q').2.2 q⟩, fun k q => ⟨(h3 k q).1, (h3 k q).2.1⟩⟩, h.b, h.t⟩
theorem Tw.below (h : Tw w0 w ha Ca ga na hb Cb gb nb T) (b : Below w.heap.size w w') : Tw w0 w' ha Ca ga na hb Cb gb nb T := by
  obtain ⟨Sa, Sb, h1, h2, h3, h4⟩ := h.ex
  exact ⟨⟨Sa, Sb, h1.below b, h2.below b, h3, h4⟩, h.b.trans (b.mono h.b.size), fun k hk => Nat.lt_of_lt_of_le (h.t k hk) b.size⟩
theorem Tw.less (h : Tw w0 w ha Ca ga na hb Cb gb nb T) (hT : ∀ k, T' k → T k) : Tw w0 w ha Ca ga na hb Cb gb nb T' := by
  obtain ⟨Sa, Sb, h1, h2, h3, h4⟩ := h.ex
  exact ⟨⟨Sa, Sb, h1, h2, fun k q => ⟨(h3 k q).1, fun t => (h3 k q).2.1 (hT k t), (h3 k q).2.2⟩, fun k q => ⟨(h4 k q).1, fun t => (h4 k q).2 (hT k t)⟩⟩, h.b, fun k t => h.t k (hT k t)⟩
theorem Tw.box (h : Tw w0 w ha Ca ga na hb Cb gb nb T) (o : Obj) : Tw w0 (w.alloc o) ha Ca ga na hb Cb gb nb (fun k => T k ∨ k = w.heap.size) := by
  have b : Below w.heap.size w (w.alloc o) := (Below.refl _ w).alloc (Nat.le_refl _) _
  obtain ⟨Sa, Sb, h1, h2, h3, h4⟩ := h.ex
  refine ⟨⟨Sa, Sb, h1.below b, h2.below b, fun k q => ⟨(h3 k q).1, ?_, (h3 k q).2.2⟩, fun k q => ⟨(h4 k q).1, ?_⟩⟩, h.b.trans (b.mono h.b.size), fun k hk => ?_⟩
  · rintro (t | t)
    · exact (h3 k q).2.1 t
    · have := h1.h.lt k q; omega
  · rintro (t | t)
    · exact (h4 k q).2 t
    · have := h2.h.lt k q; omega
  · rcases hk with t | t
    · exact Nat.lt_of_lt_of_le (h.t k t) b.size
    · rw [t]; simp
theorem Tw.set (h : Tw w0 w ha Ca ga na hb Cb gb nb T) (p : Addr) (v : Value) (hp : T p.block) (hl : w0.heap.size ≤ p.block) : Tw w0 (w.setCell p v) ha Ca ga na hb Cb gb nb T := by
  obtain ⟨Sa, Sb, h1, h2, h3, h4⟩ := h.ex
  have hs : (w.setCell p v).heap.size = w.heap.size := by simp [World.setCell]
  refine ⟨⟨Sa, Sb, h1.keep fun k q => Below.heap_setCell _ _ _ _ fun e => (h3 k q).2.1 (by rw [e]; exact hp), h2.keep fun k q => Below.heap_setCell _ _ _ _ fun e => (h4 k q).2 (by rw [e]; exact hp), h3, h4⟩, ?_, fun k t => by rw [hs]; exact h.t k t⟩
  exact h.b.trans ((Kp.of_set (S := (· = p.block)) w p v rfl).below h.b.size fun k hk e => by omega)
theorem Tw.st3 {j : Nat} (h : Tw w0 w ha Ca ga na hb Cb gb nb T) (hT : T j) (hl : w0.heap.size ≤ j) (k' : K) : Tw w0 (st3 w j k') ha Ca ga na hb Cb gb nb T := ((h.set ⟨j, 0, none⟩ _ hT hl).set ⟨j, 1, none⟩ _ hT hl).set ⟨j, 2, none⟩ _ hT hl
/-- behind a call on the first -/
theorem Tw.go {C' : Ct} {g' n' : Nat} {Sa Sb S' : HS} (h : Tw w0 w ha Ca ga na hb Cb gb nb T) (h2 : Hc w hb Cb gb nb Sb) (h3 : ∀ k, Fp ha Sa k → w0.heap.size ≤ k ∧ ¬ T k ∧ ¬ Fp hb Sb k) (h4 : ∀ k, Fp hb Sb k → w0.heap.size ≤ k ∧ ¬ T k) (hH : Hc w' ha C' g' n' S') (hC : Chg ha Sa S' w w') : Tw w0 w' ha C' g' n' hb Cb gb nb T ∧ ∀ k, T k → w'.heap[k]? = w.heap[k]? := by
  have hkb : ∀ k, Fp hb Sb k → w'.heap[k]? = w.heap[k]? := fun k q => hC.kp.block k (h2.h.lt k q) fun q' => (h3 k q').2.2 q
  refine ⟨⟨⟨S', Sb, hH, h2.keep hkb, fun k q => ?_, h4⟩, h.b.trans (hC.kp.below h.b.size fun k hk q => by have := (h3 k q).1; omega), fun k t => Nat.lt_of_lt_of_le (h.t k t) hC.kp.size⟩, fun k t => hC.kp.block k (h.t k t) fun q => (h3 k q).2.1 t⟩
  rcases hC.fp k q with q | q
  · exact h3 k q
  · exact ⟨Nat.le_trans h.b.size q, fun t => by have := h.t k t; omega, fun q' => by have := h2.h.lt k q'; omega⟩
theorem tw_new (w0 w : World) (T : Nat → Prop) (b : Below w0.heap.size w0 w) (ht : ∀ k, T k → k < w.heap.size) : Tw w0 ((w.alloc (.cells zeroH 58)).alloc (.cells zeroH 58)) w.heap.size Ct.nil 0 0 (w.heap.size + 1) Ct.nil 0 0 T := by
  have e1 : (w.alloc (.cells zeroH 58)).heap.size = w.heap.size + 1 := by simp
  have b1 : Below w.heap.size w (w.alloc (.cells zeroH 58)) := (Below.refl _ w).alloc (Nat.le_refl _) _
  have b2 : Below (w.alloc (.cells zeroH 58)).heap.size (w.alloc (.cells zeroH 58)) ((w.alloc (.cells zeroH 58)).alloc (.cells zeroH 58)) := (Below.refl _ _).alloc (Nat.le_refl _) _
  have fpz : ∀ {h k}, Fp h zS k → k = h := fun {h k} q => by
    rcases q with q | q | q | q
    · exact q
    · simp [zS] at q
    · cases q
    · cases q
  have hbs := b.size
  refine ⟨⟨zS, zS, hc_zero ((new_blk w).at (b2.block _ (new_blk w).lt)), hc_zero (by rw [← e1]; exact new_blk _), fun k q => ?_, fun k q => ?_⟩, (b.trans (b1.mono b.size)).trans (b2.mono (by rw [e1]; omega)), fun k t => ?_⟩
  · have := fpz q
    subst this
    exact ⟨b.size, fun t => by have := ht _ t; omega, fun q' => by have := fpz q'; omega⟩
  · have := fpz q
    subst this
    exact ⟨by omega, fun t => by have := ht _ t; omega⟩
  · have := ht k t
    have := b2.size
    omega
theorem tw_insert (h : Tw w0 w ha Ca ga na hb Cb gb nb T) (k : K) (hk : k.ok) (hg : ga < 1048576) : Calls Try.prog 12 #[ptr ha, ktup k] w fun e w' => e = .returned (.tuple #[.int .i64 ga, .int .i64 0]) ∧ Tw w0 w' ha (Ca.put ga k) (ga + 1) (na + 1) hb Cb gb nb T ∧ ∀ k, T k → w'.heap[k]? = w.heap[k]? := by
  obtain ⟨Sa, Sb, h1, h2, h3, h4⟩ := h.ex
  refine (insert_C h1 k hk hg).mono ?_
  rintro e w' ⟨rfl, S', h5, h6⟩
  exact ⟨rfl, h.go h2 h3 h4 h5 h6⟩
theorem tw_len (h : Tw w0 w ha Ca ga na hb Cb gb nb T) : Calls Try.prog 16 #[ptr ha] w fun e w' => e = .returned (.int .i64 na) ∧ w' = w := by
  obtain ⟨Sa, Sb, h1, h2, h3, h4⟩ := h.ex
  exact len_C h1
theorem tw_pop (h : Tw w0 w ha Ca ga na hb Cb gb nb T) (hn : na ≠ 0) {s : Nat} (hs : s ≤ 1) : ∃ (x : Nat) (k : K), Ca.ext s x k ∧ k.ok ∧ x < ga ∧ Calls Try.prog (fnP s) #[ptr ha] w fun e w' => e = .returned (.tuple #[.int .i64 x, ktup k, .int .i64 0]) ∧ Tw w0 w' ha (Ca.del x) ga (na - 1) hb Cb gb nb T ∧ ∀ k, T k → w'.heap[k]? = w.heap[k]? := by
  obtain ⟨Sa, Sb, h1, h2, h3, h4⟩ := h.ex
  obtain ⟨x, k, h5, h6⟩ := pop_C h1 hn hs
  obtain ⟨o1, y, o2, _, o3⟩ := h1.ok h5.1
  refine ⟨x, k, h5, o1, by omega, h6.mono ?_⟩
  rintro e w' ⟨rfl, S', h7, h8⟩
  exact ⟨rfl, h.go h2 h3 h4 h7 h8⟩
theorem tw_pop0 (h : Tw w0 w ha Ca ga 0 hb Cb gb nb T) {s : Nat} (hs : s ≤ 1) : Calls Try.prog (fnP s) #[ptr ha] w fun e w' => e = .returned (.tuple #[.int .i64 0, ktup kz, .int .i64 3]) ∧ Below w.heap.size w w' := by
  obtain ⟨Sa, Sb, h1, h2, h3, h4⟩ := h.ex
  exact pop_0 h1 hs
theorem tw_upd (h : Tw w0 w ha Ca ga na hb Cb gb nb T) (hx : (Lit.int .i64 x).wf = true) {k0 : K} (hc : Ca x = some k0) (k : K) (hk : k.ok) : ∃ y : Nat, x = (y : Int) ∧ Calls Try.prog 17 #[ptr ha, .int .i64 x, ktup k] w fun e w' => e = .returned (.int .i64 0) ∧ Tw w0 w' ha (Ca.put y k) ga na hb Cb gb nb T ∧ ∀ k, T k → w'.heap[k]? = w.heap[k]? := by
  obtain ⟨Sa, Sb, h1, h2, h3, h4⟩ := h.ex
  obtain ⟨y, e, h5⟩ := upd_C h1 hx hc k hk
  refine ⟨y, e, h5.mono ?_⟩
  rintro e w' ⟨rfl, S', h7, h8⟩
  exact ⟨rfl, h.go h2 h3 h4 h7 h8⟩
theorem Tw.ok (h : Tw w0 w ha Ca ga na hb Cb gb nb T) {y : Nat} {k : K} (q : Ca y = some k) : k.ok ∧ y < 1048576 ∧ y < ga := by
  obtain ⟨Sa, Sb, h1, _⟩ := h.ex
  obtain ⟨o, z, e, h2, h3⟩ := h1.ok q
  exact ⟨o, by omega, by omega⟩
end
/-! ### what they hold -/
def cf (f : Nat → K) (n : Nat) : Ct := fun x => if 0 ≤ x ∧ x < (n : Int) then some (f x.toNat) else none
theorem cf_nil (f : Nat → K) : cf f 0 = Ct.nil := by
  funext x
  unfold cf Ct.nil
  rw [if_neg (by omega)]
theorem cf_at (f : Nat → K) {n i : Nat} (h : i < n) : cf f n i = some (f i) := by
  unfold cf
  rw [if_pos ⟨by omega, by omega⟩]
  rfl
theorem cf_some {f : Nat → K} {n i : Nat} {k : K} (h : cf f n i = some k) : i < n ∧ k = f i := by
  unfold cf at h
  split at h
  · rename_i q
    exact ⟨by omega, (Option.some.inj h).symm⟩
  · cases h
theorem cf_put (f : Nat → K) (n : Nat) : (cf f n).put n (f n) = cf f (n + 1) := by
  funext x
  unfold Ct.put cf
  by_cases e : x = (n : Int)
  · subst e
    rw [if_pos rfl, if_pos ⟨by omega, by omega⟩]
    rfl
  · rw [if_neg e]
    by_cases q : 0 ≤ x ∧ x < (n : Int)
    · rw [if_pos q, if_pos ⟨q.1, by omega⟩]
    · rw [if_neg q, if_neg (by omega)]
theorem cf_same {f g : Nat → K} {n : Nat} (h : ∀ i, i < n → f i = g i) : cf f n = cf g n := by
  funext x
  unfold cf
  split
  · rename_i q
    rw [h _ (by omega)]
  · rfl
theorem cf_upd (f : Nat → K) {n i : Nat} (k : K) (h : i < n) : (cf f n).put i k = cf (upd f i k) n := by
  funext x
  unfold Ct.put cf
  by_cases e : x = (i : Int)
  · subst e
    rw [if_pos rfl, if_pos ⟨by omega, by omega⟩]
    congr 1
    rw [show ((i : Int)).toNat = i by omega, upd_same]
  · rw [if_neg e]
    split
    · rename_i q
      congr 1
      rw [upd_other _ _ (by omega)]
    · rfl
theorem ext_same {C : Ct} {s x y : Nat} {k k' : K} (hs : s ≤ 1) (h : C.ext s x k) (h' : C.ext s y k') (o : k.ok) (o' : k'.ok) (hx : x < 1048576) (hy : y < 1048576) : x = y ∧ k = k' := by
  have e1 := h.2 y k' h'.1
  have e2 := h'.2 x k h.1
  have a1 := o.b
  have a2 := o.c
  have a3 := o'.b
  have a4 := o'.c
  have hh : x = y := by
    rcases (by omega : s = 0 ∨ s = 1) with rfl | rfl
    · unfold sg enc at e1 e2
      rw [if_pos rfl, if_pos rfl] at e1 e2
      omega
    · unfold sg enc at e1 e2
      rw [if_neg (by decide), if_neg (by decide)] at e1 e2
      omega
  subst hh
  exact ⟨rfl, Option.some.inj (h.1.symm.trans h'.1)⟩
end Go.Proofs.Ytbaffgkopgbknaa
