/-
  Both graphs in a law.
-/
import Derived.Test.YtodldfgoieikcaaRg
namespace Go.Proofs.Ytodldfgoieikcaa
open Go.RowKit Go.Maps

theorem Rm.keepT {w w1 : World} {bs rb : Nat} {v : Value} {R : List JB} (h : Rm w bs rb v R) (k : ∀ (g : Nat) (cur : Array Value) (t : TypeId), w.heap[g]? = some (.cells cur t (0, 0)) → (t = 30 ∨ t = 60 ∨ (t = 2 ∧ bs ≤ g)) → w1.heap[g]? = w.heap[g]?) : Rm w1 bs rb v R := by
  refine ⟨(k _ _ _ h.c (.inl rfl)).trans h.c, ownsKeep h.r fun g e => ?_, fun b hb => (h.p b hb).keep fun g e => ?_, h.ok⟩
  · rcases h.r.2 with ⟨e0, _⟩ | ⟨g', cap, cur, e0, _, hgg, _⟩
    · rw [e0] at e; cases e
    · rw [e0] at e; cases e; exact k _ _ _ hgg (.inr (.inl rfl))
  · rcases (h.p b hb).2 with ⟨e0, _⟩ | ⟨g', cap, cur, e0, hbs, hgg, _⟩
    · rw [e0] at e; cases e
    · rw [e0] at e; cases e; exact k _ _ _ hgg (.inr (.inr ⟨rfl, hbs⟩))
structure Bo (w0 w : World) (bs gb rb : Nat) (g : GS) (v : Value) (R : List JB) : Prop where
  gr : Gr w gb g
  rm : Rm w bs rb v R
  rl : Rel g R
  bl : Below w0.heap.size w0 w
  ng : w0.heap.size ≤ gb
  nr : w0.heap.size ≤ rb
  nb : w0.heap.size ≤ bs
  sb : bs ≤ w.heap.size
/-- the program has moved, the reference not yet -/
structure Bh (w0 w : World) (bs gb rb : Nat) (g g' : GS) (v : Value) (R : List JB) : Prop where
  gr : Gr w gb g'
  rm : Rm w bs rb v R
  rl : Rel g R
  bl : Below w0.heap.size w0 w
  ng : w0.heap.size ≤ gb
  nr : w0.heap.size ≤ rb
  nb : w0.heap.size ≤ bs
  sb : bs ≤ w.heap.size
section
variable {w0 w w' : World} {bs gb rb : Nat} {g g' : GS} {v v' : Value} {R R' : List JB}
theorem Gr.typ (h : Gr w gb g) {k t : Nat} {cur : Array Value} (hk : w.heap[k]? = some (.cells cur t (0, 0))) (ht : t ≠ 54) : k ≠ gb := fun e => by
  obtain ⟨cs, h1, _⟩ := h.cs
  rw [e, h1] at hk
  injection hk with hk
  injection hk with _ q
  exact ht q.symm
theorem Bo.prog (h : Bo w0 w bs gb rb g v R) (k : Kp (fun k => k = gb) w w') (hg : Gr w' gb g') : Bh w0 w' bs gb rb g g' v R := by
  have hn := h.ng
  refine ⟨hg, h.rm.keepT fun b cur t hb ht => k.block b (Array.getElem?_eq_some_iff.1 hb).1 (h.gr.typ hb ?_), h.rl, ?_, h.ng, h.nr, h.nb, Nat.le_trans h.sb k.size⟩
  · rcases ht with rfl | rfl | ⟨rfl, _⟩ <;> decide
  · exact ⟨k.os.trans h.bl.os, k.tape.trans h.bl.tape, k.output.trans h.bl.output, Nat.le_trans h.bl.size k.size, fun j hj => (k.block j (Nat.lt_of_lt_of_le hj h.bl.size) (by show ¬ j = gb; omega)).trans (h.bl.block j hj)⟩
theorem Bh.ref (h : Bh w0 w bs gb rb g g' v R) (k : Kp (Rb rb v) w w') (hm : Rm w' bs rb v' R') (hr : Rel g' R') : Bo w0 w' bs gb rb g' v' R' := by
  have hn := h.ng
  have hnr := h.nr
  have hnb := h.nb
  have hno : ∀ j, Rb rb v j → j ≠ gb ∧ w0.heap.size ≤ j := fun j hj => by
    rcases hj with rfl | hj
    · exact ⟨h.gr.typ h.rm.c (by decide), h.nr⟩
    · rcases h.rm.r.2 with ⟨e0, _⟩ | ⟨g', cap, cur, e0, hb, hgg, _⟩
      · rw [e0] at hj; cases hj
      · rw [e0] at hj
        have hj' : g' = j := by injection hj
        subst hj'
        exact ⟨h.gr.typ hgg (by decide), by omega⟩
  refine ⟨h.gr.at (k.block gb h.gr.lt fun q => (hno gb q).1 rfl), hm, hr, ?_, h.ng, h.nr, h.nb, Nat.le_trans h.sb k.size⟩
  exact ⟨k.os.trans h.bl.os, k.tape.trans h.bl.tape, k.output.trans h.bl.output, Nat.le_trans h.bl.size k.size, fun j hj => (k.block j (Nat.lt_of_lt_of_le hj h.bl.size) fun q => by have := (hno j q).2; omega).trans (h.bl.block j hj)⟩
theorem Bo.grow (h : Bo w0 w bs gb rb g v R) (k : Below w.heap.size w w') : Bo w0 w' bs gb rb g v R :=
  ⟨h.gr.grow k, h.rm.below k, h.rl, h.bl.trans (k.mono h.bl.size), h.ng, h.nr, h.nb, Nat.le_trans h.sb k.size⟩
theorem Bh.grow (h : Bh w0 w bs gb rb g g' v R) (k : Below w.heap.size w w') : Bh w0 w' bs gb rb g g' v R :=
  ⟨h.gr.grow k, h.rm.below k, h.rl, h.bl.trans (k.mono h.bl.size), h.ng, h.nr, h.nb, Nat.le_trans h.sb k.size⟩
theorem Bh.still (h : Bh w0 w bs gb rb g g v R) : Bo w0 w bs gb rb g v R := ⟨h.gr, h.rm, h.rl, h.bl, h.ng, h.nr, h.nb, h.sb⟩
/-- a number of another row is changed -/
theorem Bo.setI {gi i : Nat} {u : Value} {cur : Array Value} (h : Bo w0 w bs gb rb g v R) (hg : w.heap[gi]? = some (.cells cur 2 (0, 0))) (hb : gi < bs) (hw : w0.heap.size ≤ gi) : Bo w0 (w.setCell ⟨gi, i, none⟩ u) bs gb rb g v R := by
  have hne : gb ≠ gi := fun e => h.gr.typ hg (by decide) e.symm
  refine ⟨h.gr.at (Below.heap_setCell _ _ _ _ hne), h.rm.keepT fun b cur' t hb' ht => Below.heap_setCell _ _ _ _ fun e => ?_, h.rl, h.bl.setCell hw _, h.ng, h.nr, h.nb, by simpa [World.setCell] using h.sb⟩
  have e' : b = gi := e
  rw [e', hg] at hb'
  injection hb' with hb'
  injection hb' with _ q
  rcases ht with r | r | r
  · rw [r] at q; exact absurd q (by decide)
  · rw [r] at q; exact absurd q (by decide)
  · omega
end
theorem rel_zero : Rel g0 [] := ⟨(fun b hb => by cases hb), (fun n _ _ => ⟨rfl, fun _ _ => rfl⟩), (fun n j _ _ h => by cases h)⟩
theorem rm_zero {w : World} {bs rb : Nat} (h : w.heap[rb]? = some (.cells #[.slice none 0 0] 30 (0, 0))) : Rm w bs rb (.slice none 0 0) [] :=
  ⟨h, World.ownsRow_nil w bs 60 3, fun b hb => (by cases hb), List.Pairwise.nil, fun b hb => (by cases hb), fun b hb => (by cases hb)⟩
theorem ParR.uniq {g : GS} {x : Int} {E F : List Int} {e f : Int} {g1 g2 : GS} (h : ParR g x E e g1) (k : ParR g x F f g2) : E = F ∧ e = f ∧ g1 = g ∧ g2 = g := by
  cases h with
  | none h1 =>
    cases k with
    | none => exact ⟨rfl, rfl, rfl, rfl⟩
    | ok i k1 k2 k3 k4 => rw [hasB_iff.2 ⟨i, k1, k2, k3, k4⟩] at h1; cases h1
  | ok i h1 h2 h3 h4 =>
    cases k with
    | none k1 => rw [hasB_iff.2 ⟨i, h1, h2, h3, h4⟩] at k1; cases k1
    | ok j k1 k2 k3 k4 =>
      have : i = j := by omega
      subst this
      exact ⟨rfl, rfl, rfl, rfl⟩
/-- both have a job added -/
theorem bo_add {w0 w : World} {bs gb rb : Nat} {g : GS} {v : Value} {R : List JB} (h : Bo w0 w bs gb rb g v R) (x : Int) (q q' : Option Addr) (n c c' : Nat) (E : List Int) (hn : n = E.length) (hE : AI w q E) (hE' : AI w0 q' E) (h9 : n ≤ 1000) :
    Calls Try.prog 15 #[.pointer (some ⟨gb, 0, none⟩), .int .i64 x, .slice q n c] w fun e w1 => ∃ a er, e = .returned (.tuple #[.bool a, .int .i64 er]) ∧ Hid (Calls Try.prog 20 #[.pointer (some ⟨rb, 0, none⟩), .int .i64 x, .slice q' n c'] w1 fun e w2 => e = .returned (.tuple #[.bool a, .int .i64 er]) ∧ Hid (∃ g' v' R', Bo w0 w2 bs gb rb g' v' R' ∧ Kp (fun k => k = gb ∨ Rb rb v k) w w2)) := by
  refine (add_any h.gr x q n c E hn hE (by omega)).mono ?_
  rintro e w1 ⟨a, er, rfl, g', h1, h2, h3⟩
  have hB := h.prog h3 h2
  refine ⟨a, er, rfl, (radd_any hB.rm hB.rl hB.sb x q' n c' E hn (hE'.below hB.bl) h9).mono ?_⟩
  rintro e w2 ⟨a', er', rfl, g2, R2, v2, k1, k2, k3, k4⟩
  obtain ⟨rfl, rfl, rfl⟩ := h1.uniq k1
  refine ⟨rfl, g', v2, R2, hB.ref k4 k2 k3, ?_⟩
  exact (h3.mono (S' := fun k => k = gb ∨ Rb rb v k) fun _ _ q => .inl q).trans k4 fun _ _ q => .inr q
/-- both tell a job's parents -/
theorem bo_par {w0 w : World} {bs gb rb : Nat} {g : GS} {v : Value} {R : List JB} (h : Bo w0 w bs gb rb g v R) (x : Int) :
    Calls Try.prog 16 #[.pointer (some ⟨gb, 0, none⟩), .int .i64 x] w fun e w1 => ∃ (p : Option Addr) (n c : Nat) (er : Int), e = .returned (.tuple #[.slice p n c, .int .i64 er]) ∧ Hid (Bo w0 w1 bs gb rb g v R) ∧ Hid (Calls Try.prog 22 #[.pointer (some ⟨rb, 0, none⟩), .int .i64 x] w1 fun e w2 => ∃ (p2 : Option Addr) (c2 : Nat), e = .returned (.tuple #[.slice p2 n c2, .int .i64 er]) ∧ w2 = w1 ∧ Hid (Calls Try.prog 21 #[.slice p n c, .slice p2 n c2] w2 fun e w3 => e = .returned (.bool true) ∧ Hid (Bo w0 w3 bs gb rb g v R))) := by
  refine (par_any h.gr x).mono ?_
  rintro e w1 ⟨p, n, c, er, rfl, hn, E, g', h1, h2, h3, h4, h5⟩
  obtain ⟨_, _, eg, _⟩ := h1.uniq h1
  subst eg
  have hB := (h.prog h5 h4).still
  refine ⟨p, n, c, er, rfl, hB, (rpar_any hB.rm hB.rl x).mono ?_⟩
  rintro e w2 ⟨p2, n2, c2, er2, rfl, hn2, rfl, F, k1, k2, k3⟩
  obtain ⟨rfl, rfl, _, _⟩ := h1.uniq k1
  have : n2 = n := by omega
  subst this
  refine ⟨p2, c2, rfl, rfl, (same_any w2 p p2 n2 c c2 E h2 h3.ai k3 (by omega)).mono ?_⟩
  rintro e w3 ⟨rfl, b3⟩
  exact ⟨rfl, hB.grow b3⟩
end Go.Proofs.Ytodldfgoieikcaa
