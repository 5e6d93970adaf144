/-
  The memory of the law of all runs.
-/
import Derived.Test.YtoiopplhphllhaaSv
namespace Go.Proofs.Ytoiopplhphllhaa
open Go.RowKit Go.Maps

abbrev CP := Option (Nat × List (List UInt8))
/-- a Point that tells what the checkpoint is -/
def PtOk (w : World) (s : CP) (W : PT) (l : List RC) : Prop := l.length = W.m ∧ Pcs w W.q l ∧ (s = none ∧ W.i = false ∨ ∃ nn : Nat, s = some (nn, l.map RC.b) ∧ W.i = true ∧ W.n = nn)
structure PW (w0 wr : World) (tg : Nat → Tg) (pb : Nat) (D : DK) (s : CP) (pw pm : Nat) (W M : PT) : Prop where
  a : At w0 wr tg pb D
  fs : ∃ y, D.fs = fsN none (fileOf s) y
  ok : okC s
  w : wr.heap[pw]? = some (.cells #[.bool W.i, .int .i64 W.n, .slice W.q W.m W.c] 29 (0, 0))
  m : wr.heap[pm]? = some (.cells #[.bool M.i, .int .i64 M.n, .slice M.q M.m M.c] 29 (0, 0))
  tw : tg pw = .no
  tm : tg pm = .no
  lw : w0.heap.size ≤ pw
  lm : w0.heap.size ≤ pm
  ne : pw ≠ pm
  pt : ∃ l, PtOk w0 s W l
theorem PW.keep {w0 wr wr' : World} {tg : Nat → Tg} {pb pw pm : Nat} {D : DK} {s : CP} {W M : PT} (h : PW w0 wr tg pb D s pw pm W M) (b : Below wr.heap.size wr wr') : PW w0 wr' tg pb D s pw pm W M :=
  ⟨h.a.keep b, h.fs, h.ok, at_below b (Nat.le_refl _) h.w, at_below b (Nat.le_refl _) h.m, h.tw, h.tm, h.lw, h.lm, h.ne, h.pt⟩
theorem PW.step {w0 wr wr' : World} {tg tg' : Nat → Tg} {pb pw pm : Nat} {D D' : DK} {s : CP} {W M : PT} (h : PW w0 wr tg pb D s pw pm W M) (d : Dsk wr' tg' pb D') (st : Step tg tg' wr wr') (hf : ∃ y, D'.fs = fsN none (fileOf s) y) : PW w0 wr' tg' pb D' s pw pm W M :=
  ⟨h.a.step d st, hf, h.ok, (step_blk st h.w h.tw).1, (step_blk st h.m h.tm).1, (step_blk st h.w h.tw).2, (step_blk st h.m h.tm).2, h.lw, h.lm, h.ne, h.pt⟩
theorem PW.is {w0 wr : World} {tg : Nat → Tg} {pb pw pm : Nat} {D : DK} {s : CP} {W M : PT} (h : PW w0 wr tg pb D s pw pm W M) :
    Calls Try.prog 17 #[.pointer (some ⟨pb, 0, none⟩), .agg #[.bool W.i, .int .i64 W.n, .slice W.q W.m W.c]] wr fun e w' => e = .returned (.bool true) ∧ Below wr.heap.size wr w' := by
  obtain ⟨y, hy⟩ := h.fs
  obtain ⟨l, h1, h2, h3⟩ := h.pt
  have := is_any h.a.d s (holds_N hy h.ok) W.i W.n W.q W.m W.c l h1 (h2.keep h.a.b)
  rw [show isB D s W.i W.n (l.map RC.b) = true by
    unfold isB
    split
    · rfl
    · rcases h3 with ⟨rfl, h4⟩ | ⟨nn, rfl, h4, h5⟩
      · rw [if_neg (by simp [h4])]; rfl
      · rw [if_pos h4]
        simp [h5]] at this
  exact this
def set3 (w : World) (g : Nat) (P : PT) : World := ((w.setCell ⟨g, 0, none⟩ (.bool P.i)).setCell ⟨g, 1, none⟩ (.int .i64 P.n)).setCell ⟨g, 2, none⟩ (.slice P.q P.m P.c)
theorem set3_other {w : World} {g k : Nat} {P : PT} (h : k ≠ g) : (set3 w g P).heap[k]? = w.heap[k]? := by
  unfold set3
  rw [Below.heap_setCell _ _ _ _ h, Below.heap_setCell _ _ _ _ h, Below.heap_setCell _ _ _ _ h]
theorem set3_self {w : World} {g : Nat} {P : PT} {a b c : Value} (h : w.heap[g]? = some (.cells #[a, b, c] 29 (0, 0))) : (set3 w g P).heap[g]? = some (.cells #[.bool P.i, .int .i64 P.n, .slice P.q P.m P.c] 29 (0, 0)) := setB (setB (setB h _) _) _
theorem PW.setM {w0 wr : World} {tg : Nat → Tg} {pb pw pm : Nat} {D : DK} {s : CP} {W M : PT} (h : PW w0 wr tg pb D s pw pm W M) (P : PT) : PW w0 (set3 wr pm P) tg pb D s pw pm W P :=
  ⟨((h.a.set _ _ h.tm h.lm).set _ _ h.tm h.lm).set _ _ h.tm h.lm, h.fs, h.ok, (set3_other h.ne).trans h.w, set3_self h.m, h.tw, h.tm, h.lw, h.lm, h.ne, h.pt⟩
theorem PW.setW {w0 wr : World} {tg : Nat → Tg} {pb pw pm : Nat} {D : DK} {s s' : CP} {W M : PT} (h : PW w0 wr tg pb D s pw pm W M) (P : PT) (hf : ∃ y, D.fs = fsN none (fileOf s') y) (ho : okC s') (hp : ∃ l, PtOk w0 s' P l) : PW w0 (set3 wr pw P) tg pb D s' pw pm P M :=
  ⟨((h.a.set _ _ h.tw h.lw).set _ _ h.tw h.lw).set _ _ h.tw h.lw, hf, ho, set3_self h.w, (set3_other h.ne.symm).trans h.m, h.tw, h.tm, h.lw, h.lm, h.ne, hp⟩
/-- a step that changes what the checkpoint is: the Point is set behind it -/
theorem PW.stepW {w0 wr wr' : World} {tg tg' : Nat → Tg} {pb pw pm : Nat} {D D' : DK} {s s' : CP} {W M : PT} (h : PW w0 wr tg pb D s pw pm W M) (d : Dsk wr' tg' pb D') (st : Step tg tg' wr wr') (hf : ∃ y, D'.fs = fsN none (fileOf s') y) (ho : okC s') (P : PT) (hp : ∃ l, PtOk w0 s' P l) : PW w0 (set3 wr' pw P) tg' pb D' s' pw pm P M := by
  have a := h.a.step d st
  obtain ⟨w1, t1⟩ := step_blk st h.w h.tw
  obtain ⟨m1, t2⟩ := step_blk st h.m h.tm
  exact ⟨((a.set _ _ t1 h.lw).set _ _ t1 h.lw).set _ _ t1 h.lw, hf, ho, set3_self w1, (set3_other h.ne.symm).trans m1, t1, t2, h.lw, h.lm, h.ne, hp⟩
theorem PW.down {w0 wr : World} {tg : Nat → Tg} {pb pw pm : Nat} {D : DK} {s : CP} {W M : PT} (h : PW w0 wr tg pb D s pw pm W M) (b : Bool) (hb : D.down = b) : Calls Try.prog 13 #[.pointer (some ⟨pb, 0, none⟩)] wr fun e w' => e = .returned (.bool b) ∧ w' = wr := by
  obtain ⟨_, _, _, dd⟩ := h.a.d
  have := dd.cell
  rw [hb] at this
  exact down_at wr pb _ _ _ _ this
end Go.Proofs.Ytoiopplhphllhaa
