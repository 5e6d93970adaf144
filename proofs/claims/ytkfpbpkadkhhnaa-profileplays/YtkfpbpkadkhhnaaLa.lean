/-
  One profile in a law; awake.
-/
import Derived.Test.YtkfpbpkadkhhnaaPk
namespace Go.Proofs.Ytkfpbpkadkhhnaa
open Go.RowKit Go.Maps

/-- a profile of the law's own making; X: blocks that are none of it, and what they hold -/
structure Lw (w0 w : World) (pb : Nat) (X : Nat → Option Obj) (S : PS) : Prop where
  m : Mem w pb S
  o : Ok S
  b : Below w0.heap.size w0 w
  f : ∀ j, Fp pb S j → w0.heap.size ≤ j
  x : ∀ j o, X j = some o → w.heap[j]? = some o ∧ ¬ Fp pb S j
/-- a profile with a capacity, what is free, a number of takes -/
def LL (w0 w : World) (pb : Nat) (X : Nat → Option Obj) (C : V) (f : Int → V) (n : Nat) : Prop := ∃ S, Lw w0 w pb X S ∧ S.C = C ∧ (∀ u, fa S.C S.l u = f u) ∧ S.n = n
def NX : Nat → Option Obj := fun _ => none
def adX (X : Nat → Option Obj) (j : Nat) (o : Obj) : Nat → Option Obj := fun i => if i = j then some o else X i
theorem adX_self (X : Nat → Option Obj) (j : Nat) (o : Obj) : adX X j o j = some o := by unfold adX; rw [if_pos rfl]
section
variable {w0 w w' w1 : World} {pb : Nat} {S S' : PS} {X : Nat → Option Obj} {C : V} {f : Int → V} {n : Nat}
theorem Lw.step (h : Lw w0 w pb X S) (hm : Mem w' pb S') (ho : Ok S') (g : Chg pb S S' w w') : Lw w0 w' pb X S' := by
  have hs := h.b.size
  refine ⟨hm, ho, ⟨g.kp.os.trans h.b.os, g.kp.tape.trans h.b.tape, g.kp.output.trans h.b.output, Nat.le_trans h.b.size g.kp.size, fun j hj => (g.kp.block j (by omega) fun q => by have := h.f j q; omega).trans (h.b.block j hj)⟩, fun j q => ?_, fun j o q => ?_⟩
  · rcases g.fp j q with q | q
    · exact h.f j q
    · omega
  · obtain ⟨h1, h2⟩ := h.x j o q
    have hj := (Array.getElem?_eq_some_iff.1 h1).1
    refine ⟨(g.kp.block j hj h2).trans h1, fun q => ?_⟩
    rcases g.fp j q with q | q
    · exact h2 q
    · omega
theorem Lw.below (h : Lw w0 w pb X S) (b : Below w.heap.size w w') : Lw w0 w' pb X S :=
  ⟨h.m.below b, h.o, h.b.trans (b.mono h.b.size), h.f, fun j o q => by
    obtain ⟨h1, h2⟩ := h.x j o q
    exact ⟨(b.block j (Array.getElem?_eq_some_iff.1 h1).1).trans h1, h2⟩⟩
theorem LL.below (h : LL w0 w pb X C f n) (b : Below w.heap.size w w') : LL w0 w' pb X C f n := by
  obtain ⟨S, h, r⟩ := h
  exact ⟨S, h.below b, r⟩
theorem LL.bel (h : LL w0 w pb X C f n) : Below w0.heap.size w0 w := by
  obtain ⟨S, h, _⟩ := h
  exact h.b
theorem LL.lt (h : LL w0 w pb X C f n) : pb < w.heap.size := by
  obtain ⟨S, h, _⟩ := h
  exact h.m.lt pb (.inl rfl)
theorem LL.alloc (h : LL w0 w pb X C f n) (o : Obj) : LL w0 (w.alloc o) pb (adX X w.heap.size o) C f n := by
  obtain ⟨S, h, r⟩ := h
  have h1 := h.below ((Below.refl _ w).alloc (Nat.le_refl _) o)
  refine ⟨S, ⟨h1.m, h1.o, h1.b, h1.f, fun j o' q => ?_⟩, r⟩
  unfold adX at q
  split at q
  · rename_i e
    subst e
    cases q
    exact ⟨new0, fun q => Nat.lt_irrefl _ (h.m.lt _ q)⟩
  · exact h1.x j o' q
theorem LL.box (h : LL w0 w pb X C f n) {j : Nat} {o : Obj} (hj : X j = some o) : w.heap[j]? = some o := by
  obtain ⟨S, h, _⟩ := h
  exact (h.x j o hj).1
theorem LL.forget (h : LL w0 w pb X C f n) {Y : Nat → Option Obj} (hY : ∀ j o, Y j = some o → X j = some o) : LL w0 w pb Y C f n := by
  obtain ⟨S, h, r⟩ := h
  exact ⟨S, ⟨h.m, h.o, h.b, h.f, fun j o q => h.x j o (hY j o q)⟩, r⟩
theorem LL.fo (h : LL w0 w pb X C f n) (u : Int) : (f u).ok = true ∧ (f u).le C := by
  obtain ⟨S, h, e1, e2, e3⟩ := h
  have := h.o.p.fo u
  rwa [e2, e1] at this
theorem LL.ck (h : LL w0 w pb X C f n) : C.ok = true := by
  obtain ⟨S, h, e1, e2, e3⟩ := h
  rw [← e1]
  exact h.o.p.ck
theorem LL.n4 (h : LL w0 w pb X C f n) : n ≤ 4096 := by
  obtain ⟨S, h, e1, e2, e3⟩ := h
  rw [← e3]
  exact h.o.n
theorem l_new (w0 w : World) (b : Below w0.heap.size w0 w) (v : V) (hv : v.ok = true) (X : Nat → Option Obj) (hX : ∀ j o, X j = some o → w.heap[j]? = some o) : Calls Try.prog 9 #[.agg #[.int .i64 v.a, .int .i64 v.b, .int .i64 v.c, .int .i64 v.d]] w fun e w' => ∃ pb, e = .returned (.tuple #[.pointer (some ⟨pb, 0, none⟩), .int .i64 0]) ∧ LL w0 w' pb X v (fun _ => v) 0 := by
  refine (new_raw w v hv).mono ?_
  rintro e w' ⟨w1, rfl, b1, rfl⟩
  have hb := b.trans (b1.mono b.size)
  have hm := mem_new (w := w1) (v := v)
  refine ⟨_, rfl, _, ⟨hm, ⟨Pf.nil hv, Nat.zero_le _, Nat.zero_le _⟩, hb.alloc hb.size _, fun j q => ?_, fun j o q => ?_⟩, rfl, fun _ => rfl, rfl⟩
  · rcases q with rfl | q
    · exact hb.size
    · cases q
  · have h1 := hX j o q
    have h2 := at_below b1 (Nat.le_refl _) h1
    refine ⟨at_alloc h2, fun q => ?_⟩
    rcases q with rfl | q
    · exact Nat.lt_irrefl _ (Array.getElem?_eq_some_iff.1 h2).1
    · cases q
/-- what is free behind a Take, and how many takes there are -/
noncomputable def stF (f : Int → V) (n : Nat) (a b : Int) (v : V) : Int → V := if tkC f n a b v = 0 then tkF f a b v else f
noncomputable def stN (f : Int → V) (n : Nat) (a b : Int) (v : V) : Nat := if tkC f n a b v = 0 then n + 1 else n
theorem l_take (h : LL w0 w pb X C f n) (a b : Int) (v : V) : Calls Try.prog 15 #[.pointer (some ⟨pb, 0, none⟩), .int .i64 a, .int .i64 b, .agg #[.int .i64 v.a, .int .i64 v.b, .int .i64 v.c, .int .i64 v.d]] w fun e w' => e = .returned (.int .i64 (tkC f n a b v)) ∧ LL w0 w' pb X C (stF f n a b v) (stN f n a b v) := by
  obtain ⟨S, h, rfl, e2, rfl⟩ := h
  have ef : fa S.C S.l = f := funext e2
  refine (take_any h.m h.o a b v).mono ?_
  rintro e w' ⟨rfl, S', q⟩
  rw [ef]
  refine ⟨rfl, S', h.step q.m q.o q.g, q.c, ?_, ?_⟩
  · intro u
    unfold stF
    split
    · rename_i hz
      rw [← ef] at hz
      rw [(q.f hz).2 u, ef]
    · rename_i hz
      rw [← ef] at hz
      rw [q.k hz, ef]
  · unfold stN
    split
    · rename_i hz
      rw [← ef] at hz
      exact (q.f hz).1
    · rename_i hz
      rw [← ef] at hz
      rw [q.k hz]
theorem l_free (h : LL w0 w pb X C f n) (t : Int) : Calls Try.prog 17 #[.pointer (some ⟨pb, 0, none⟩), .int .i64 t] w fun e w' => e = .returned (.agg #[.int .i64 (f t).a, .int .i64 (f t).b, .int .i64 (f t).c, .int .i64 (f t).d]) ∧ Below w.heap.size w w' := by
  obtain ⟨S, h, rfl, e2, rfl⟩ := h
  have h1 := h.o.n
  have h2 := h.o.l
  have := Free_any h.m h.o.p.srt (by omega) t
  rwa [e2] at this
theorem l_least (h : LL w0 w pb X C f n) (a b : Int) (hs : spn a b = true) : Calls Try.prog 19 #[.pointer (some ⟨pb, 0, none⟩), .int .i64 a, .int .i64 b] w fun e w' => (∃ m : V, e = .returned (.tuple #[.agg #[.int .i64 m.a, .int .i64 m.b, .int .i64 m.c, .int .i64 m.d], .int .i64 0]) ∧ Lst f a b m) ∧ Below w.heap.size w w' := by
  obtain ⟨S, h, rfl, e2, rfl⟩ := h
  have h1 := h.o.n
  have h2 := h.o.l
  have := least_good h.m h.o.p.srt (by omega) a b hs
  rwa [funext e2] at this
theorem l_ear (h : LL w0 w pb X C f n) (a k : Int) (v : V) : Calls Try.prog 18 #[.pointer (some ⟨pb, 0, none⟩), .int .i64 a, .int .i64 k, .agg #[.int .i64 v.a, .int .i64 v.b, .int .i64 v.c, .int .i64 v.d]] w fun e w' => (∃ t c : Int, e = .returned (.tuple #[.int .i64 t, .int .i64 c]) ∧ EarA C f a k v t c) ∧ Below w.heap.size w w' := by
  obtain ⟨S, h, rfl, e2, rfl⟩ := h
  have h1 := h.o.n
  have h2 := h.o.l
  by_cases hv : v.ok = false
  · refine (ear_bad w _ a k v hv).mono ?_
    rintro e w' ⟨rfl, b⟩
    exact ⟨⟨0, 4, rfl, by unfold EarA; rw [if_pos hv]; exact ⟨rfl, rfl⟩⟩, b⟩
  · by_cases hr : rgE a k = false
    · refine (ear_range w _ a k v (by simpa using hv) hr).mono ?_
      rintro e w' ⟨rfl, b⟩
      exact ⟨⟨0, 2, rfl, by unfold EarA; rw [if_neg hv, if_pos hr]; exact ⟨rfl, rfl⟩⟩, b⟩
    · have := ear_go h.m h.o.p (by omega) a k v (by simpa using hv) (by simpa using hr)
      rwa [funext e2] at this
/-- a row of steps that was told -/
structure SR (w : World) (v : Value) (C : V) (f : Int → V) (L : List St) : Prop where
  r : Row w v L
  p : Pf C L
  f : ∀ u, fa C L u = f u
  l : L.length ≤ 8192
theorem l_steps (h : LL w0 w pb X C f n) : Calls Try.prog 13 #[.pointer (some ⟨pb, 0, none⟩)] w fun e w' => ∃ v L, e = .returned v ∧ SR w' v C f L ∧ Below w.heap.size w w' ∧ (∀ j, v.ownBlock = some j → w.heap.size ≤ j) := by
  obtain ⟨S, h, rfl, e2, rfl⟩ := h
  have h1 := h.o.n
  have h2 := h.o.l
  refine (steps_any h.m (by omega)).mono ?_
  rintro e w' ⟨v, rfl, k1, k2, k3⟩
  exact ⟨v, S.l, rfl, ⟨k1, h.o.p, e2, by omega⟩, k2, k3⟩
end
end Go.Proofs.Ytkfpbpkadkhhnaa
