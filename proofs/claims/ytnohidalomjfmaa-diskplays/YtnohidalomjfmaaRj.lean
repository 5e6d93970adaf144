/-
  Both disks beside each other: the law's step.
-/
import Derived.Test.YtnohidalomjfmaaRi
import Derived.Test.YtnohidalomjfmaaTd
namespace Go.Proofs.Ytnohidalomjfmaa
open Go.RowKit Go.Maps

structure Two (w0 w : World) (pb rb : Nat) (D E : DK) (tg rt : Nat → Tg) : Prop where
  d : Dsk w tg pb D
  r : Ref w rt rb E
  ap : ∀ k, tg k ≠ .no → rt k = .no
  t1 : ∀ k, tg k ≠ .no → w0.heap.size ≤ k
  t2 : ∀ k, rt k ≠ .no → w0.heap.size ≤ k
  b : Below w0.heap.size w0 w
theorem Dsk.lt {w : World} {tg : Nat → Tg} {pb : Nat} {D : DK} (h : Dsk w tg pb D) {k : Nat} (hk : tg k ≠ .no) : k < w.heap.size := by obtain ⟨_, _, _, h⟩ := h; exact h.lt k hk
theorem Ref.lt {w : World} {tg : Nat → Tg} {pb : Nat} {D : DK} (h : Ref w tg pb D) {k : Nat} (hk : tg k ≠ .no) : k < w.heap.size := by obtain ⟨_, _, _, h⟩ := h; exact h.lt k hk
theorem no_of {t : Tg} (h : ¬ t ≠ .no) : t = .no := by
  by_cases e : t = .no
  · exact e
  · exact absurd e h
theorem Two.left {w0 w w' : World} {pb rb : Nat} {D E D' : DK} {tg rt tg' : Nat → Tg} (h : Two w0 w pb rb D E tg rt) (d : Dsk w' tg' pb D') (st : Step tg tg' w w') : Two w0 w' pb rb D' E tg' rt := by
  refine ⟨d, h.r.keep (fun k hk => st.1.block k (h.r.lt hk) fun e => hk (h.ap k e)) st.1.size, fun k hk => ?_, fun k hk => ?_, h.t2, ?_⟩
  · rcases st.2 k hk with h1 | h1
    · exact h.ap k h1
    · refine no_of fun e => ?_
      have := h.r.lt e
      omega
  · rcases st.2 k hk with h1 | h1
    · exact h.t1 k h1
    · exact Nat.le_trans h.b.size h1
  · exact h.b.trans (st.below (Nat.le_trans (Nat.le_refl _) h.b.size) h.t1).1
theorem Two.right {w0 w w' : World} {pb rb : Nat} {D E E' : DK} {tg rt rt' : Nat → Tg} (h : Two w0 w pb rb D E tg rt) (d : Ref w' rt' rb E') (st : Step rt rt' w w') : Two w0 w' pb rb D E' tg rt' := by
  refine ⟨h.d.keep (fun k hk => st.1.block k (h.d.lt hk) fun e => e (h.ap k hk)) st.1.size, d, fun k hk => ?_, h.t1, fun k hk => ?_, ?_⟩
  · refine no_of fun e => ?_
    rcases st.2 k e with h1 | h1
    · exact h1 (h.ap k hk)
    · have := h.d.lt hk
      omega
  · rcases st.2 k hk with h1 | h1
    · exact h.t2 k h1
    · exact Nat.le_trans h.b.size h1
  · exact h.b.trans (st.below (Nat.le_trans (Nat.le_refl _) h.b.size) h.t2).1
theorem Two.keep {w0 w w' : World} {pb rb : Nat} {D E : DK} {tg rt : Nat → Tg} (h : Two w0 w pb rb D E tg rt) (b : Below w.heap.size w w') : Two w0 w' pb rb D E tg rt :=
  ⟨h.d.keepB b, h.r.keep (fun k hk => b.block k (h.r.lt hk)) b.size, h.ap, h.t1, h.t2, h.b.trans (b.mono h.b.size)⟩

/-- the step's struct as a value -/
def opv (kd n : Int) (s t : List UInt8) (q : Option Addr) (m c : Nat) : Value := .agg #[.int .i64 kd, .int .i64 n, .string ⟨⟨s⟩⟩, .string ⟨⟨t⟩⟩, .slice q m c]
/-- both have stepped alike -/
def Both (w0 w' : World) (pb rb : Nat) (D' : DK) : Prop := ∃ tg rt, Two w0 w' pb rb D' D' tg rt

/-- the bytes' copy, off both disks -/
theorem off_own {w w2 : World} {B : Nat} {v : Value} {l : List UInt8} {tg : Nat → Tg} (ho : Own w2 w.heap.size v l) (ht : ∀ k, tg k ≠ .no → k < w.heap.size) : ∃ q c, v = .slice q l.length c ∧ (q = none → c = 0) ∧ LiesOff w2 tg q l ∧ (B = B) := by
  obtain ⟨q, c, rfl, hL, hz, hlt⟩ := ho.shape
  refine ⟨q, c, rfl, hz, ?_, rfl⟩
  rcases hL with h | ⟨g, o, rfl, h⟩
  · exact .inl h
  · have := hlt g rfl
    refine .inr ⟨g, o, rfl, h, this.2, no_of fun e => ?_⟩
    have := ht g e
    omega

theorem c5 {w : World} {g : Nat} {a b c d e : Value} {t : TypeId} (h : w.heap[g]? = some (.cells #[a, b, c, d, e] t (0, 0))) : w.cell? ⟨g, 0, none⟩ = some a ∧ w.cell? ⟨g, 1, none⟩ = some b ∧ w.cell? ⟨g, 2, none⟩ = some c ∧ w.cell? ⟨g, 3, none⟩ = some d ∧ w.cell? ⟨g, 4, none⟩ = some e :=
  ⟨Lib.cell_of_heap h 0, Lib.cell_of_heap h 1, Lib.cell_of_heap h 2, Lib.cell_of_heap h 3, Lib.cell_of_heap h 4⟩
/-- in a step: the box with the call, the copy of its bytes, both disks -/
structure Mid (w0 w1 : World) (pb rb gb : Nat) (D E : DK) (tg rt : Nat → Tg) (kd n : Int) (s t : List UInt8) (q0 : Option Addr) (m0 c0 : Nat) (q : Option Addr) (c : Nat) (mb : List UInt8) : Prop where
  two : Two w0 w1 pb rb D E tg rt
  box : w1.heap[gb]? = some (.cells #[.int .i64 kd, .int .i64 n, .string ⟨⟨s⟩⟩, .string ⟨⟨t⟩⟩, .slice q0 m0 c0] 32 (0, 0))
  n1 : tg gb = .no
  n2 : rt gb = .no
  l1 : LiesOff w1 tg q mb
  l2 : LiesOff w1 rt q mb
  hq : q = none → c = 0
  cap : mb.length ≤ c
theorem off_left {w w' : World} {q : Option Addr} {mb : List UInt8} {tg tg' rt : Nat → Tg} (h1 : LiesOff w tg q mb) (h2 : LiesOff w rt q mb) (st : Step tg tg' w w') : LiesOff w' rt q mb := by
  rcases h2 with h | ⟨g, o, e, h, hlt, hn⟩
  · exact .inl h
  · rcases h1 with h1 | ⟨g', o', e', h', hlt', hn'⟩
    · exact .inl h1
    · rw [e] at e'
      cases e'
      exact .inr ⟨g, o, e, h.keepAt (st.1.block g hlt fun k => k hn'), Nat.lt_of_lt_of_le hlt st.1.size, hn⟩
theorem Mid.left {w0 w1 w2 : World} {pb rb gb : Nat} {D E D' : DK} {tg rt tg' : Nat → Tg} {kd n : Int} {s t : List UInt8} {q0 : Option Addr} {m0 c0 : Nat} {q : Option Addr} {c : Nat} {mb : List UInt8} (h : Mid w0 w1 pb rb gb D E tg rt kd n s t q0 m0 c0 q c mb) (d : Dsk w2 tg' pb D') (st : Step tg tg' w1 w2) : Mid w0 w2 pb rb gb D' E tg' rt kd n s t q0 m0 c0 q c mb := by
  have hlt : gb < w1.heap.size := (Array.getElem?_eq_some_iff.1 h.box).1
  refine ⟨h.two.left d st, (st.1.block gb hlt fun e => e h.n1).trans h.box, no_of fun e => ?_, h.n2, h.l1.step st, off_left h.l1 h.l2 st, h.hq, h.cap⟩
  rcases st.2 gb e with h1 | h1
  · exact h1 h.n1
  · omega
theorem Mid.drew {w0 w1 : World} {pb rb gb : Nat} {D E : DK} {tg rt : Nat → Tg} {kd n : Int} {s t : List UInt8} {q0 : Option Addr} {m0 c0 : Nat} {q : Option Addr} {c : Nat} {mb : List UInt8} (h : Mid w0 w1 pb rb gb D E tg rt kd n s t q0 m0 c0 q c mb) : Mid w0 w1.drew pb rb gb D E tg rt kd n s t q0 m0 c0 q c mb :=
  ⟨h.two.keep (Below.refl _ _).drew, h.box, h.n1, h.n2, h.l1.step ((Step.refl tg w1).drew 1), h.l2.step ((Step.refl rt w1).drew 1), h.hq, h.cap⟩
/-- behind the copying of the bytes -/
theorem mid_of {w0 w w1 : World} {pb rb : Nat} {D E : DK} {tg rt : Nat → Tg} {kd n : Int} {s t : List UInt8} {q0 : Option Addr} {m0 c0 : Nat} {v : Value} {mb : List UInt8} (h : Two w0 w pb rb D E tg rt)
    (o1 : Own w1 (w.heap.size + 1) v mb) (b1 : Below (w.heap.size + 1) (w.alloc (.cells #[.int .i64 kd, .int .i64 n, .string ⟨⟨s⟩⟩, .string ⟨⟨t⟩⟩, .slice q0 m0 c0] 32)) w1) :
    ∃ q c, v = .slice q mb.length c ∧ Mid w0 w1 pb rb w.heap.size D E tg rt kd n s t q0 m0 c0 q c mb := by
  have hsz : (w.alloc (.cells #[.int .i64 kd, .int .i64 n, .string ⟨⟨s⟩⟩, .string ⟨⟨t⟩⟩, .slice q0 m0 c0] 32)).heap.size = w.heap.size + 1 := by simp
  have bb : Below w.heap.size w w1 := ((Below.refl _ w).alloc (Nat.le_refl _) _).trans (b1.mono (by omega))
  obtain ⟨q, c, rfl, hL, hz, hlt⟩ := o1.shape
  have n1 : ∀ k, w.heap.size ≤ k → tg k = .no := fun k hk => no_of fun e => by have := h.d.lt e; omega
  have n2 : ∀ k, w.heap.size ≤ k → rt k = .no := fun k hk => no_of fun e => by have := h.r.lt e; omega
  refine ⟨q, c, rfl, h.keep bb, (b1.block _ (by omega)).trans new0, n1 _ (Nat.le_refl _), n2 _ (Nat.le_refl _), ?_, ?_, hz, o1.cap.1⟩
  all_goals
    rcases hL with h | ⟨g, o, rfl, h⟩
    · exact .inl h
    · have := hlt g rfl
      first | exact .inr ⟨g, o, rfl, h, this.2, n1 g (by omega)⟩ | exact .inr ⟨g, o, rfl, h, this.2, n2 g (by omega)⟩

theorem sz_le {s : List UInt8} (h : s.length ≤ 281474976710656) : (⟨⟨s⟩⟩ : ByteArray).size ≤ maxLen := by
  show s.length ≤ maxLen
  unfold maxLen
  omega

end Go.Proofs.Ytnohidalomjfmaa
