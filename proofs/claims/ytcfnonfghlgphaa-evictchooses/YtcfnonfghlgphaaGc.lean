/-
  A line that holds victims: what is next.
-/
import Derived.Test.YtcfnonfghlgphaaGb
namespace Go.Proofs.Ytcfnonfghlgphaa
open Go.RowKit Go.Maps

abbrev NoT : Nat → Prop := fun _ => False
/-- the heap holds these: handles and victims -/
def HoldsP (C : Hp.Ct) (P : List (Nat × Vi)) : Prop := ∀ (x : Int) (k : Hp.K), C x = some k ↔ ∃ e ∈ P, (e.1 : Int) = x ∧ kOf e.2 = k
/-- what the line has, with its heap -/
structure LnH (w0 w : World) (lb hb gr c g : Nat) (C : Hp.Ct) (P : List (Nat × Vi)) (R : List Vi) (T : Nat → Prop) : Prop where
  l : Hp.Lw w0 w hb C g P.length (fun k => T k ∨ k = lb ∨ k = gr)
  c0 : w.cell? ⟨lb, 0, none⟩ = some (.slice (some ⟨gr, 0, none⟩) 1 c)
  c1 : w.cell? ⟨gr, 0, none⟩ = some (.pointer (some ⟨hb, 0, none⟩))
  h : HoldsP C P
  n : (P.map Prod.fst).Nodup
  p : (P.map Prod.snd).Perm R
  tr : ¬ T gr
  gl : w0.heap.size ≤ gr
/-- a line at lb that holds the victims R, in their turns; T: blocks of somebody else's -/
structure LnS (w0 w : World) (lb : Nat) (R : List Vi) (T : Nat → Prop) : Prop where
  b : Below w0.heap.size w0 w
  t : ∀ k, T k → k < w.heap.size
  tl : ¬ T lb
  u : Uj R
  s : Tu R
  o : ∀ v ∈ R, in64 v.j ∧ in64 v.p ∧ in64 v.s
  ll : w0.heap.size ≤ lb
  m : (R = [] ∧ w.cell? ⟨lb, 0, none⟩ = some (.slice none 0 0)) ∨ ∃ hb gr c g C P, LnH w0 w lb hb gr c g C P R T
section
variable {w0 w w' : World} {lb hb gr c g : Nat} {C : Hp.Ct} {P : List (Nat × Vi)} {R : List Vi} {T : Nat → Prop} {v : Vi}
theorem LnH.below (h : LnH w0 w lb hb gr c g C P R T) (b : Below w.heap.size w w') : LnH w0 w' lb hb gr c g C P R T := ⟨h.l.below b, cell_below h.c0 b, cell_below h.c1 b, h.h, h.n, h.p, h.tr, h.gl⟩
theorem LnS.below (h : LnS w0 w lb R T) (b : Below w.heap.size w w') : LnS w0 w' lb R T := by
  refine ⟨below_from h.b b h.b.size, fun k hk => Nat.lt_of_lt_of_le (h.t k hk) b.size, h.tl, h.u, h.s, h.o, h.ll, ?_⟩
  rcases h.m with ⟨a1, a2⟩ | ⟨hb, gr, c, g, C, P, h1⟩
  · exact .inl ⟨a1, cell_below a2 b⟩
  · exact .inr ⟨hb, gr, c, g, C, P, h1.below b⟩
/-- others' blocks change, and new ones come to them -/
theorem lw_kp {n : Nat} {Q Q' S : Nat → Prop} (h : Hp.Lw w0 w hb C g n Q) (k : Kp S w w') (hS : ∀ x, S x → Q x ∧ w0.heap.size ≤ x) (hQ : ∀ x, Q' x → x < w'.heap.size ∧ (Q x ∨ w.heap.size ≤ x)) : Hp.Lw w0 w' hb C g n Q' := by
  obtain ⟨H, h1, h2⟩ := h.ex
  refine ⟨⟨H, h1.keep fun x q => k.block x (h1.h.lt x q) fun e => (h2 x q).2 (hS x e).1, fun x q => ⟨(h2 x q).1, fun e => ?_⟩⟩, h.b.trans (k.below h.b.size fun x hx e => by have := (hS x e).2; omega), fun x e => (hQ x e).1⟩
  rcases (hQ x e).2 with e | e
  · exact (h2 x q).2 e
  · have := h1.h.lt x q; omega
theorem LnS.kp {S T' : Nat → Prop} (h : LnS w0 w lb R T) (k : Kp S w w') (hS : ∀ x, S x → T x ∧ w0.heap.size ≤ x) (hT : ∀ x, T' x → x < w'.heap.size ∧ (T x ∨ w.heap.size ≤ x)) : LnS w0 w' lb R T' := by
  have hl : lb < w.heap.size := by
    rcases h.m with ⟨a1, a2⟩ | ⟨hb, gr, c, g, C, P, h1⟩
    · exact cell_lt a2
    · exact cell_lt h1.c0
  have ht' : ∀ x, x < w.heap.size → ¬ T x → ¬ T' x := fun x hx hn e => by
    rcases (hT x e).2 with q | q
    · exact hn q
    · omega
  have hkeep : ∀ x, x < w.heap.size → ¬ T x → w'.heap[x]? = w.heap[x]? := fun x hx hn => k.block x hx fun e => hn (hS x e).1
  refine ⟨h.b.trans (k.below h.b.size fun x hx e => by have := (hS x e).2; omega), fun x e => (hT x e).1, ht' lb hl h.tl, h.u, h.s, h.o, h.ll, ?_⟩
  rcases h.m with ⟨a1, a2⟩ | ⟨hb, gr, c, g, C, P, h1⟩
  · exact .inl ⟨a1, (cell_eq (hkeep lb hl h.tl)).trans a2⟩
  · have hg : gr < w.heap.size := cell_lt h1.c1
    refine .inr ⟨hb, gr, c, g, C, P, lw_kp h1.l k (fun x e => ⟨.inl (hS x e).1, (hS x e).2⟩) (fun x e => ?_), (cell_eq (hkeep lb hl h.tl)).trans h1.c0, (cell_eq (hkeep gr hg h1.tr)).trans h1.c1, h1.h, h1.n, h1.p, ht' gr hg h1.tr, h1.gl⟩
    rcases e with e | e | e
    · have := hT x e
      exact ⟨this.1, this.2.imp .inl id⟩
    · subst e; exact ⟨Nat.lt_of_lt_of_le hl k.size, .inl (.inr (.inl rfl))⟩
    · subst e; exact ⟨Nat.lt_of_lt_of_le hg k.size, .inl (.inr (.inr rfl))⟩
/-- of somebody who began later -/
theorem LnS.from {w1 : World} (h : LnS w1 w lb R NoT) (b : Below w0.heap.size w0 w1) (hT : ∀ x, T x → x < w1.heap.size) : LnS w0 w lb R T := by
  refine ⟨b.trans (h.b.mono b.size), fun k e => Nat.lt_of_lt_of_le (hT k e) h.b.size, fun e => Nat.lt_irrefl _ (Nat.lt_of_lt_of_le (hT lb e) h.ll), h.u, h.s, h.o, Nat.le_trans b.size h.ll, ?_⟩
  rcases h.m with ⟨a1, a2⟩ | ⟨hb, gr, c, g, C, P, h1⟩
  · exact .inl ⟨a1, a2⟩
  · refine .inr ⟨hb, gr, c, g, C, P, ?_, h1.c0, h1.c1, h1.h, h1.n, h1.p, fun e => Nat.lt_irrefl _ (Nat.lt_of_lt_of_le (hT gr e) h1.gl), Nat.le_trans b.size h1.gl⟩
    obtain ⟨H, h3, h4⟩ := h1.l.ex
    refine ⟨⟨H, h3, fun k q => ⟨Nat.le_trans b.size (h4 k q).1, fun e => ?_⟩⟩, b.trans (h1.l.b.mono b.size), fun k e => ?_⟩
    · rcases e with e | e
      · have := hT k e
        have := (h4 k q).1
        omega
      · exact (h4 k q).2 (.inr e)
    · rcases e with e | e
      · exact Nat.lt_of_lt_of_le (hT k e) h1.l.b.size
      · exact h1.l.t k (.inr e)
theorem lw_ok {n : Nat} {Q : Nat → Prop} (h : Hp.Lw w0 w hb C g n Q) {x : Int} {k : Hp.K} (q : C x = some k) : k.ok ∧ ∃ y : Nat, x = (y : Int) ∧ y < 1048576 := by
  obtain ⟨H, h1, h2⟩ := h.ex
  obtain ⟨a, y, b, c, _⟩ := h1.ok q
  exact ⟨a, y, b, c⟩
/-- the least of all is the first -/
theorem LnH.first (h : LnH w0 w lb hb gr c g C P (v :: R) T) (u : Uj (v :: R)) (s : Tu (v :: R)) {x : Nat} {k : Hp.K} (e : C.ext 0 x k) : k = kOf v ∧ ∃ P', (∀ {w1}, Hp.Lw w0 w1 hb (C.del x) g (P.length - 1) (fun k => T k ∨ k = lb ∨ k = gr) → w1.cell? ⟨lb, 0, none⟩ = some (.slice (some ⟨gr, 0, none⟩) 1 c) → w1.cell? ⟨gr, 0, none⟩ = some (.pointer (some ⟨hb, 0, none⟩)) → LnH w0 w1 lb hb gr c g (C.del x) P' R T) := by
  obtain ⟨e0, he, e1, e2⟩ := (h.h x k).1 e.1
  obtain ⟨A, B, hP⟩ := List.append_of_mem he
  have hx : e0.1 = x := by omega
  have p1 : P.Perm (e0 :: (A ++ B)) := by rw [hP]; exact List.perm_middle
  have p2 : (e0.2 :: (A ++ B).map Prod.snd).Perm (v :: R) := ((p1.map Prod.snd).symm.trans h.p)
  have u2 : Uj (e0.2 :: (A ++ B).map Prod.snd) := u.perm p2.symm
  have n1 : (e0.1 :: (A ++ B).map Prod.fst).Nodup := (p1.map Prod.fst).nodup_iff.1 h.n
  have hm : ∀ m ∈ (A ++ B).map Prod.snd, vb e0.2 m := fun m hm => by
    obtain ⟨e', he', rfl⟩ := List.mem_map.1 hm
    have q1 : C e'.1 = some (kOf e'.2) := (h.h _ _).2 ⟨e', p1.mem_iff.2 (List.mem_cons_of_mem _ he'), rfl, rfl⟩
    have q2 := e.2 e'.1 (kOf e'.2) q1
    obtain ⟨o1, y, y1, y2⟩ := lw_ok h.l q1
    obtain ⟨o2, z, z1, z2⟩ := lw_ok h.l e.1
    have hj := (List.pairwise_cons.1 u2).1 e'.2 (List.mem_map.2 ⟨e', he', rfl⟩)
    have a1 := o1.a
    have a2 := o1.b
    have a3 := o1.c
    have a4 := o2.a
    have a5 := o2.b
    have a6 := o2.c
    rw [← e2] at q2 a4 a5 a6
    unfold Hp.sg Hp.enc at q2
    rw [if_pos rfl, if_pos rfl] at q2
    unfold Hp.i64 at a1 a2 a3 a4 a5 a6
    unfold kOf at *
    simp only at *
    unfold vb
    omega
  obtain ⟨R', hR, hp⟩ := tu_head s p2.symm hm
  injection hR with hv hR
  refine ⟨by rw [hv]; exact e2.symm, A ++ B, fun {w1} hl c0 c1 => ⟨?_, c0, c1, ?_, (List.nodup_cons.1 n1).2, ?_, h.tr, h.gl⟩⟩
  · have : (A ++ B).length = P.length - 1 := by rw [p1.length_eq]; simp
    rw [this]
    exact hl
  · intro y k'
    unfold Hp.Ct.del
    by_cases q : y = (x : Int)
    · rw [if_pos q]
      constructor
      · intro e; cases e
      · rintro ⟨e', he', e3, _⟩
        have : e'.1 = e0.1 := by omega
        exact absurd (List.mem_map.2 ⟨e', he', this⟩) (List.nodup_cons.1 n1).1
    · rw [if_neg q, h.h y k']
      constructor
      · rintro ⟨e', he', e3, e4⟩
        rcases List.mem_cons.1 (p1.mem_iff.1 he') with rfl | he'
        · exact absurd (by omega) q
        · exact ⟨e', he', e3, e4⟩
      · rintro ⟨e', he', e3, e4⟩
        exact ⟨e', p1.mem_iff.2 (List.mem_cons_of_mem _ he'), e3, e4⟩
  · rw [hR]
    exact hp.symm
theorem LnH.len (h : LnH w0 w lb hb gr c g C P R T) : P.length = R.length := by rw [← h.p.length_eq, List.length_map]
end
end Go.Proofs.Ytcfnonfghlgphaa
