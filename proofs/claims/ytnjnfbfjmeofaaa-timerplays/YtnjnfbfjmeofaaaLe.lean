/-
  One clock in a law; awake.
-/
import Derived.Test.YtnjnfbfjmeofaaaNd
namespace Go.Proofs.Ytnjnfbfjmeofaaa
open Go.RowKit Go.Maps Go.WideMaps

/-- a clock of the law's own making; X: blocks that are none of it, and what they hold -/
structure Lw (w0 w : World) (cb : Nat) (X : Nat → Option Obj) (S : HS) (R : List Al) : Prop where
  k : Ck w cb S R
  b : Below w0.heap.size w0 w
  f : ∀ j, Fp cb S j → w0.heap.size ≤ j
  x : ∀ j o, X j = some o → w.heap[j]? = some o ∧ ¬ Fp cb S j
def LL (w0 w : World) (cb : Nat) (X : Nat → Option Obj) (R : List Al) : Prop := ∃ S, Lw w0 w cb X S R
def NX : Nat → Option Obj := fun _ => none
def adX (X : Nat → Option Obj) (j : Nat) (o : Obj) : Nat → Option Obj := fun i => if i = j then some o else X i
section
variable {w0 w w' w1 : World} {cb : Nat} {S S' : HS} {R R' : List Al} {X : Nat → Option Obj}
theorem Lw.step (h : Lw w0 w cb X S R) (c : Cg w w' cb S S' R') : Lw w0 w' cb X S' R' := by
  have hs := h.b.size
  refine ⟨c.c, ⟨c.g.kp.os.trans h.b.os, c.g.kp.tape.trans h.b.tape, c.g.kp.output.trans h.b.output, Nat.le_trans h.b.size c.g.kp.size, fun j hj => (c.g.kp.block j (by omega) fun q => by have := h.f j q; omega).trans (h.b.block j hj)⟩, fun j q => ?_, fun j o q => ?_⟩
  · rcases c.g.fp j q with q | q
    · exact h.f j q
    · omega
  · obtain ⟨h1, h2⟩ := h.x j o q
    have hj := (Array.getElem?_eq_some_iff.1 h1).1
    refine ⟨(c.g.kp.block j hj h2).trans h1, fun q => ?_⟩
    rcases c.g.fp j q with q | q
    · exact h2 q
    · omega
theorem Lw.below (h : Lw w0 w cb X S R) (b : Below w.heap.size w w') : Lw w0 w' cb X S R :=
  ⟨h.k.below b, h.b.trans (b.mono h.b.size), h.f, fun j o q => by
    obtain ⟨h1, h2⟩ := h.x j o q
    exact ⟨(b.block j (Array.getElem?_eq_some_iff.1 h1).1).trans h1, h2⟩⟩
theorem LL.below (h : LL w0 w cb X R) (b : Below w.heap.size w w') : LL w0 w' cb X R := by
  obtain ⟨S, h⟩ := h
  exact ⟨S, h.below b⟩
theorem LL.bel (h : LL w0 w cb X R) : Below w0.heap.size w0 w := by
  obtain ⟨S, h⟩ := h
  exact h.b
theorem LL.alloc (h : LL w0 w cb X R) (o : Obj) : LL w0 (w.alloc o) cb (adX X w.heap.size o) R := by
  obtain ⟨S, h⟩ := h
  have h1 := h.below ((Below.refl _ w).alloc (Nat.le_refl _) o)
  refine ⟨S, h1.k, h1.b, h1.f, fun j o' q => ?_⟩
  unfold adX at q
  split at q
  · rename_i e
    subst e
    cases q
    exact ⟨new0, fun q => Nat.lt_irrefl _ (h.k.c.m.lt _ q)⟩
  · exact h1.x j o' q
theorem LL.box (h : LL w0 w cb X R) {j : Nat} {o : Obj} (hj : X j = some o) : w.heap[j]? = some o := by
  obtain ⟨S, h⟩ := h
  exact (h.x j o hj).1
theorem LL.forget (h : LL w0 w cb X R) {Y : Nat → Option Obj} (hY : ∀ j o, Y j = some o → X j = some o) : LL w0 w cb Y R := by
  obtain ⟨S, h⟩ := h
  exact ⟨S, h.k, h.b, h.f, fun j o q => h.x j o (hY j o q)⟩
theorem l_new (w0 w : World) (b : Below w0.heap.size w0 w) : Calls Try.prog 10 #[] w fun e w' => e = .returned (.pointer (some ⟨w.heap.size, 0, none⟩)) ∧ LL w0 w' w.heap.size NX [] ∧ w.heap.size < w'.heap.size := by
  refine (new_any w).mono ?_
  rintro e w' ⟨rfl, rfl⟩
  refine ⟨rfl, ⟨_, zero_C w, b.alloc b.size _, fun j q => ?_, fun j o q => by cases q⟩, by simp⟩
  rcases q with rfl | q | q
  · exact b.size
  · cases q
  · cases q
theorem l_set (h : LL w0 w cb X R) (s : ByteArray) (x : Int) (hs : s.size ≤ 281474976710656) : Calls Try.prog 16 #[.pointer (some ⟨cb, 0, none⟩), .string s, .int .i64 x] w fun e w' => e = .returned (.int .i64 (setC s.data.toList R)) ∧ LL w0 w' cb X (setR s x R) := by
  obtain ⟨S, h⟩ := h
  refine (set_C h.k s x hs).mono ?_
  rintro e w' ⟨rfl, S', q⟩
  exact ⟨rfl, S', h.step q⟩
theorem l_cancel (h : LL w0 w cb X R) (s : ByteArray) (hs : s.size ≤ maxLen) : Calls Try.prog 19 #[.pointer (some ⟨cb, 0, none⟩), .string s] w fun e w' => e = .returned (.int .i64 (canC s.data.toList R)) ∧ LL w0 w' cb X (drp s.data.toList R) := by
  obtain ⟨S, h⟩ := h
  refine (cancel_C h.k s hs).mono ?_
  rintro e w' ⟨rfl, S', q⟩
  exact ⟨rfl, S', h.step q⟩
theorem l_get (h : LL w0 w cb X R) (s : ByteArray) (hs : s.size ≤ maxLen) : Calls Try.prog 18 #[.pointer (some ⟨cb, 0, none⟩), .string s] w fun e w' => e = .returned (getV (fnd s.data.toList R)) ∧ w' = w := by
  obtain ⟨S, h⟩ := h
  exact get_C h.k s hs
theorem l_next (h : LL w0 w cb X R) : Calls Try.prog 20 #[.pointer (some ⟨cb, 0, none⟩)] w fun e w' => e = .returned (nextV R.head?) ∧ LL w0 w' cb X R := by
  have h' := h
  obtain ⟨S, h⟩ := h
  refine (next_C h.k).mono ?_
  rintro e w' ⟨rfl, b⟩
  exact ⟨rfl, h'.below b⟩
theorem l_len (h : LL w0 w cb X R) : Calls Try.prog 12 #[.pointer (some ⟨cb, 0, none⟩)] w fun e w' => e = .returned (.int .i64 R.length) ∧ w' = w := by
  obtain ⟨S, h⟩ := h
  exact len_C h.k
/-- a row that Due has told, and the clock behind it -/
def DR (w0 w : World) (cb : Nat) (X : Nat → Option Obj) (v : Value) (T R : List Al) : Prop := Row w v T ∧ LL w0 w cb X R
theorem l_due (h : LL w0 w cb X R) (now : Int) : Calls Try.prog 14 #[.pointer (some ⟨cb, 0, none⟩), .int .i64 now] w fun e w' => ∃ v, e = .returned v ∧ DR w0 w' cb X v (pw now R) (dw now R) := by
  obtain ⟨S, h⟩ := h
  refine (due_C h.k now).mono ?_
  rintro e w' ⟨v, S', rfl, q⟩
  exact ⟨v, rfl, q.r, S', h.step q.c⟩
end
theorem str_eq (s t : ByteArray) : (s.toList == t.toList) = decide (s = t) := by
  rw [Lib.toList_data, Lib.toList_data]
  by_cases h : s = t
  · subst h; simp
  · rw [decide_eq_false h]
    simp only [beq_eq_false_iff_ne, ne_eq]
    exact fun q => h (nm_of q)
set_option maxHeartbeats 1000000 in
theorem awake_any (w0 w : World) (b : Below w0.heap.size w0 w) : Calls Try.prog 9 #[] w fun e w' => e = .returned (.bool true) ∧ Below w0.heap.size w0 w' := by
  have HN : Hid (Calls Try.prog 10 #[] w fun e w' => e = .returned (.pointer (some ⟨w.heap.size, 0, none⟩)) ∧ Hid (LL w0 w' w.heap.size NX [])) := (l_new w0 w b).mono fun e w' h => ⟨h.1, h.2.1⟩
  have HS : Hid (∀ W, LL w0 W w.heap.size NX [] → Calls Try.prog 16 #[.pointer (some ⟨w.heap.size, 0, none⟩), .string ⟨#[97]⟩, .int .i64 5] W fun e w' => e = .returned (.int .i64 0) ∧ Hid (LL w0 w' w.heap.size NX [⟨⟨#[97]⟩, 5⟩])) := fun W h => l_set h ⟨#[97]⟩ 5 (by decide)
  have HX : Hid (∀ W, LL w0 W w.heap.size NX [⟨⟨#[97]⟩, 5⟩] → Calls Try.prog 20 #[.pointer (some ⟨w.heap.size, 0, none⟩)] W fun e w' => e = .returned (.tuple #[.agg #[.string ⟨#[97]⟩, .int .i64 5], .int .i64 0]) ∧ Hid (LL w0 w' w.heap.size NX [⟨⟨#[97]⟩, 5⟩])) := fun W h => l_next h
  have HL : Hid (∀ W, LL w0 W w.heap.size NX [⟨⟨#[97]⟩, 5⟩] → Calls Try.prog 12 #[.pointer (some ⟨w.heap.size, 0, none⟩)] W fun e w' => e = .returned (.int .i64 1) ∧ w' = W) := fun W h => l_len h
  go_enter Try.func9, Try.ntmps9
  go_wp2_with (first | (go_at_call 10; refine HN.out.mono ?_; rintro e w1 ⟨rfl, h1⟩) | (go_at_call 16; refine (HS.out _ h1.out).mono ?_; rintro e w2 ⟨rfl, h2⟩) | (go_at_call 20; refine (HX.out _ h2.out).mono ?_; rintro e w3 ⟨rfl, h3⟩) | (go_at_call 12; refine (HL.out _ (h3.out.below (by go_grown))).mono ?_; rintro e w4 ⟨rfl, rfl⟩))
  go_ret
  exact ⟨rfl, (h3.out.below ((Below.refl _ _).alloc (Nat.le_refl _) _)).bel⟩
end Go.Proofs.Ytnjnfbfjmeofaaa
