/-
  Both profiles in a law.
-/
import Derived.Test.YtkfpbpkadkhhnaaQk
import Derived.Test.YtkfpbpkadkhhnaaQg
import Derived.Test.YtkfpbpkadkhhnaaQh
namespace Go.Proofs.Ytkfpbpkadkhhnaa
open Go.RowKit Go.Maps

theorem rear_any {w : World} {rb : Nat} {C : V} {tv : Value} {T : List Opr} (h : RP w rb C tv T) (hO : RO C T) (a n : Int) (v : V) :
    Calls Try.prog 21 #[.pointer (some ⟨rb, 0, none⟩), .int .i64 a, .int .i64 n, .agg #[.int .i64 v.a, .int .i64 v.b, .int .i64 v.c, .int .i64 v.d]] w fun e w' => (∃ t c : Int, e = .returned (.tuple #[.int .i64 t, .int .i64 c]) ∧ EarA C (fT C T) a n v t c) ∧ RowKit.Below w.heap.size w w' := by
  by_cases hv : v.ok = false
  · refine (rear_bad w _ a n v hv).mono ?_
    rintro e w' ⟨rfl, b⟩
    exact ⟨⟨0, 4, rfl, by unfold EarA; rw [if_pos hv]; exact ⟨rfl, rfl⟩⟩, b⟩
  · by_cases hr : rgE a n = false
    · refine (rear_range w _ a n v (by simpa using hv) hr).mono ?_
      rintro e w' ⟨rfl, b⟩
      exact ⟨⟨0, 2, rfl, by unfold EarA; rw [if_neg hv, if_pos hr]; exact ⟨rfl, rfl⟩⟩, b⟩
    · exact rear_go h hO a n v (by simpa using hv) (by simpa using hr)
/-- the takes behind a Take -/
noncomputable def stT (C : V) (T : List Opr) (a b : Int) (v : V) : List Opr := if tkC (fT C T) T.length a b v = 0 then T ++ [⟨0, a, b, v⟩] else T
theorem stT_fT (C : V) (T : List Opr) (a b : Int) (v : V) (u : Int) : fT C (stT C T a b v) u = stF (fT C T) T.length a b v u := by
  unfold stT stF
  split
  · unfold fT
    rw [plF_snoc]
  · rfl
theorem stT_len (C : V) (T : List Opr) (a b : Int) (v : V) : (stT C T a b v).length = stN (fT C T) T.length a b v := by
  unfold stT stN
  split
  · simp
  · rfl
theorem stT_ro {C : V} {T : List Opr} (h : RO C T) (a b : Int) (v : V) : RO C (stT C T a b v) := by
  have hn := h.n
  unfold stT
  split
  · rename_i hz
    obtain ⟨h1, h2, h3, h4⟩ := tkC_zero hz
    exact ⟨h.c, AllT.snoc.2 ⟨h.a, h1, h2, h4⟩, by simp; omega⟩
  · exact h
theorem Rp.below {w w' : World} {rb : Nat} {C : V} {tv : Value} {T : List Opr} (h : RP w rb C tv T) (b : RowKit.Below w.heap.size w w') : RT w w' rb C tv tv T :=
  ⟨h.below b, ⟨b.os, b.tape, b.output, b.size, fun j hj _ => b.block j hj⟩, fun _ q => .inl q⟩
theorem rtake_any {w : World} {rb : Nat} {C : V} {tv : Value} {T : List Opr} (h : RP w rb C tv T) (hO : RO C T) (a b : Int) (v : V) (h4 : T.length < 4096) :
    Calls Try.prog 23 #[.pointer (some ⟨rb, 0, none⟩), .int .i64 a, .int .i64 b, .agg #[.int .i64 v.a, .int .i64 v.b, .int .i64 v.c, .int .i64 v.d]] w fun e w' => e = .returned (.int .i64 (tkC (fT C T) T.length a b v)) ∧ ∃ tv', RT w w' rb C tv tv' (stT C T a b v) := by
  by_cases hv : v.ok = false
  · have hc : tkC (fT C T) T.length a b v = 4 := by unfold tkC; rw [if_pos hv]
    have hs : stT C T a b v = T := by unfold stT; rw [hc, if_neg (by omega)]
    refine (rtake_bad w _ a b v hv).mono ?_
    rintro e w' ⟨rfl, b'⟩
    rw [hc, hs]
    exact ⟨rfl, tv, Rp.below h b'⟩
  · have hv' : v.ok = true := by simpa using hv
    by_cases hp : spn a b = false
    · have hc : tkC (fT C T) T.length a b v = 2 := by unfold tkC; rw [if_neg hv, if_pos hp]
      have hs : stT C T a b v = T := by unfold stT; rw [hc, if_neg (by omega)]
      refine (rtake_range w _ a b v hv' hp).mono ?_
      rintro e w' ⟨rfl, b'⟩
      rw [hc, hs]
      exact ⟨rfl, tv, Rp.below h b'⟩
    · have hp' : spn a b = true := by simpa using hp
      have hne : T.length ≠ 4096 := by omega
      obtain ⟨p, c, rfl⟩ := h.rw.shape
      refine (rtake_go h rfl hO a b v hv' hp' h4).mono ?_
      rintro e w' (⟨hf, rfl, b'⟩ | ⟨hf, rfl, tv', q⟩)
      · have hc : tkC (fT C T) T.length a b v = 7 := by unfold tkC; rw [if_neg hv, if_neg hp, if_neg hne, if_pos hf]
        have hs : stT C T a b v = T := by unfold stT; rw [hc, if_neg (by omega)]
        rw [hc, hs]
        exact ⟨rfl, _, Rp.below h b'⟩
      · have hc : tkC (fT C T) T.length a b v = 0 := by unfold tkC; rw [if_neg hv, if_neg hp, if_neg hne, if_neg (by simpa using hf)]
        have hs : stT C T a b v = T ++ [⟨0, a, b, v⟩] := by unfold stT; rw [if_pos hc]
        rw [hc, hs]
        exact ⟨rfl, tv', q⟩
/-- the reference's profile beside the program's -/
structure BA (w0 w : World) (pb rb : Nat) (X : Nat → Option Obj) (S : PS) (C : V) (tv : Value) (T : List Opr) : Prop where
  l : Lw w0 w pb X S
  r : RP w rb C tv T
  o : RO C T
  a : ∀ j, Rp rb tv j → ¬ Fp pb S j ∧ X j = none ∧ w0.heap.size ≤ j
/-- both profiles, when the program's has a state and the reference's another -/
def BL (w0 w : World) (pb rb : Nat) (X : Nat → Option Obj) (C : V) (f : Int → V) (n : Nat) (T : List Opr) : Prop := ∃ S tv, BA w0 w pb rb X S C tv T ∧ S.C = C ∧ (∀ u, fa S.C S.l u = f u) ∧ S.n = n
section
variable {w0 w w' : World} {pb rb : Nat} {S S' : PS} {X : Nat → Option Obj} {C : V} {f : Int → V} {n : Nat} {tv tv' : Value} {T T' : List Opr}
theorem BA.step (h : BA w0 w pb rb X S C tv T) (hm : Mem w' pb S') (ho : Ok S') (g : Chg pb S S' w w') : BA w0 w' pb rb X S' C tv T := by
  refine ⟨h.l.step hm ho g, h.r.keep fun k hk => g.kp.block k (h.r.lt k hk) (h.a k hk).1, h.o, fun j hj => ⟨fun q => ?_, (h.a j hj).2⟩⟩
  rcases g.fp j q with q | q
  · exact (h.a j hj).1 q
  · have := h.r.lt j hj
    omega
theorem BA.rstep (h : BA w0 w pb rb X S C tv T) (q : RT w w' rb C tv tv' T') (ho : RO C T') : BA w0 w' pb rb X S C tv' T' := by
  have hs := h.l.b.size
  have hsz := q.k.size
  refine ⟨⟨h.l.m.keep fun k hk => q.k.block k (h.l.m.lt k hk) fun z => (h.a k z).1 hk, h.l.o, ⟨q.k.os.trans h.l.b.os, q.k.tape.trans h.l.b.tape, q.k.output.trans h.l.b.output, Nat.le_trans h.l.b.size q.k.size, fun j hj => (q.k.block j (by omega) fun z => by have := (h.a j z).2.2; omega).trans (h.l.b.block j hj)⟩, h.l.f, fun j o hx => ?_⟩, q.m, ho, fun j hj => ?_⟩
  · obtain ⟨h1, h2⟩ := h.l.x j o hx
    refine ⟨(q.k.block j (Array.getElem?_eq_some_iff.1 h1).1 fun z => ?_).trans h1, h2⟩
    rw [(h.a j z).2.1] at hx
    cases hx
  · rcases q.f j hj with z | z
    · exact h.a j z
    · refine ⟨fun y => ?_, ?_, by omega⟩
      · have := h.l.m.lt j y
        omega
      · cases hx : X j with
        | none => rfl
        | some o =>
          have := (Array.getElem?_eq_some_iff.1 (h.l.x j o hx).1).1
          omega
theorem BA.below (h : BA w0 w pb rb X S C tv T) (b : Below w.heap.size w w') : BA w0 w' pb rb X S C tv T := ⟨h.l.below b, h.r.below b, h.o, h.a⟩
theorem BL.below (h : BL w0 w pb rb X C f n T) (b : Below w.heap.size w w') : BL w0 w' pb rb X C f n T := by
  obtain ⟨S, tv, h, r⟩ := h
  exact ⟨S, tv, h.below b, r⟩
theorem BL.ll (h : BL w0 w pb rb X C f n T) : LL w0 w pb X C f n := by
  obtain ⟨S, tv, h, r⟩ := h
  exact ⟨S, h.l, r⟩
theorem BL.rr (h : BL w0 w pb rb X C f n T) : ∃ tv, RP w rb C tv T := by
  obtain ⟨S, tv, h, r⟩ := h
  exact ⟨tv, h.r⟩
theorem BL.ro (h : BL w0 w pb rb X C f n T) : RO C T := by
  obtain ⟨S, tv, h, r⟩ := h
  exact h.o
theorem BL.alloc (h : BL w0 w pb rb X C f n T) (o : Obj) : BL w0 (w.alloc o) pb rb (adX X w.heap.size o) C f n T := by
  obtain ⟨S, tv, h, r⟩ := h
  have h1 := h.below ((Below.refl _ w).alloc (Nat.le_refl _) o)
  refine ⟨S, tv, ⟨⟨h1.l.m, h1.l.o, h1.l.b, h1.l.f, fun j o' q => ?_⟩, h1.r, h1.o, fun j hj => ⟨(h.a j hj).1, ?_, (h.a j hj).2.2⟩⟩, r⟩
  · unfold adX at q
    split at q
    · rename_i e
      subst e
      cases q
      exact ⟨new0, fun q => Nat.lt_irrefl _ (h.l.m.lt _ q)⟩
    · exact h1.l.x j o' q
  · unfold adX
    rw [if_neg (fun e => by have := h.r.lt j hj; omega)]
    exact (h.a j hj).2.1
theorem BL.forget (h : BL w0 w pb rb X C f n T) {Y : Nat → Option Obj} (hY : ∀ j o, Y j = some o → X j = some o) : BL w0 w pb rb Y C f n T := by
  obtain ⟨S, tv, h, r⟩ := h
  refine ⟨S, tv, ⟨⟨h.l.m, h.l.o, h.l.b, h.l.f, fun j o q => h.l.x j o (hY j o q)⟩, h.r, h.o, fun j hj => ⟨(h.a j hj).1, ?_, (h.a j hj).2.2⟩⟩, r⟩
  cases hy : Y j with
  | none => rfl
  | some o =>
    have := hY j o hy
    rw [(h.a j hj).2.1] at this
    cases this
theorem b_take (h : BL w0 w pb rb X C f n T) (a b : Int) (v : V) : Calls Try.prog 15 #[.pointer (some ⟨pb, 0, none⟩), .int .i64 a, .int .i64 b, .agg #[.int .i64 v.a, .int .i64 v.b, .int .i64 v.c, .int .i64 v.d]] w fun e w' => e = .returned (.int .i64 (tkC f n a b v)) ∧ BL w0 w' pb rb X C (stF f n a b v) (stN f n a b v) T := by
  obtain ⟨S, tv, h, rfl, e2, rfl⟩ := h
  have ef : fa S.C S.l = f := funext e2
  refine (take_any h.l.m h.l.o a b v).mono ?_
  rintro e w' ⟨rfl, S', q⟩
  rw [ef]
  have hh := h.step q.m q.o q.g
  refine ⟨rfl, S', tv, hh, q.c, ?_, ?_⟩
  · intro u
    unfold stF
    split
    · rename_i hz
      rw [← ef] at hz
      rw [(q.f hz).2 u, ef]
    · rename_i hz
      rw [← ef] at hz
      rw [q.k hz, ef]
  · unfold stN
    split
    · rename_i hz
      rw [← ef] at hz
      exact (q.f hz).1
    · rename_i hz
      rw [← ef] at hz
      rw [q.k hz]
theorem b_rtake (h : BL w0 w pb rb X C f n T) (a b : Int) (v : V) (h4 : T.length < 4096) : Calls Try.prog 23 #[.pointer (some ⟨rb, 0, none⟩), .int .i64 a, .int .i64 b, .agg #[.int .i64 v.a, .int .i64 v.b, .int .i64 v.c, .int .i64 v.d]] w fun e w' => e = .returned (.int .i64 (tkC (fT C T) T.length a b v)) ∧ BL w0 w' pb rb X C f n (stT C T a b v) := by
  obtain ⟨S, tv, h, rfl, e2, rfl⟩ := h
  refine (rtake_any h.r h.o a b v h4).mono ?_
  rintro e w' ⟨rfl, tv', q⟩
  exact ⟨rfl, S, tv', h.rstep q (stT_ro h.o a b v), rfl, e2, rfl⟩
end
/-- both profiles at one state -/
def BE (w0 w : World) (pb rb : Nat) (X : Nat → Option Obj) (C : V) (T : List Opr) : Prop := BL w0 w pb rb X C (fT C T) T.length T
end Go.Proofs.Ytkfpbpkadkhhnaa
