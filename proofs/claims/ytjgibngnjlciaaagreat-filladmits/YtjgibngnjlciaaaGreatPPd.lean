/-
  search, Earliest.
-/
import Derived.Test.YtjgibngnjlciaaaGreatPPc
namespace Go.Proofs.YtjgibngnjlciaaaGreat
open Go.RowKit Go.Maps

/-- a vector's box -/
def Bx (w : World) (g : Nat) (v : V) : Prop := w.heap[g]? = some (.cells #[.int .i64 v.a, .int .i64 v.b, .int .i64 v.c, .int .i64 v.d] 40 (0, 0))
theorem fits_V (v u : V) (w : World) : Calls Tryz.prog 52 #[.agg #[.int .i64 v.a, .int .i64 v.b, .int .i64 v.c, .int .i64 v.d], .agg #[.int .i64 u.a, .int .i64 u.b, .int .i64 u.c, .int .i64 u.d]] w fun r w' => r = .returned (.bool (decide (v.le u))) ∧ Below w.heap.size w w' := by
  have := fits_any v.a v.b v.c v.d u.a u.b u.c u.d w
  rwa [ft_le] at this
structure EQ (w wr : World) (S : PS) (a n : Int) (v : V) (bx p : Nat) (t : Int) : Prop where
  q : Erq S.C S.l a n v p t
  w : Below w.heap.size w wr
  b : Bx wr bx v
def rgE (a n : Int) : Bool := decide (0 ≤ a ∧ a ≤ 1099511627776 ∧ 1 ≤ n ∧ n ≤ 1099511627776)
/-- what Earliest answers -/
def EarA (C : V) (f : Int → V) (a n : Int) (v : V) (t c : Int) : Prop :=
  if v.ok = false then t = 0 ∧ c = 4 else if rgE a n = false then t = 0 ∧ c = 2 else if ¬ v.le C then t = 0 ∧ c = 7 else ∃ u, Ear f a n v u ∧ (if 1099511627776 < u + n then t = 0 ∧ c = 2 else t = u ∧ c = 0)
theorem EarA.uniq {C : V} {f : Int → V} {a n : Int} {v : V} {t c t' c' : Int} (h : EarA C f a n v t c) (k : EarA C f a n v t' c') : t = t' ∧ c = c' := by
  unfold EarA at h k
  split at h
  · rename_i q
    rw [if_pos q] at k
    omega
  · rename_i q
    rw [if_neg q] at k
    split at h
    · rename_i q
      rw [if_pos q] at k
      omega
    · rename_i q
      rw [if_neg q] at k
      split at h
      · rename_i q
        rw [if_pos q] at k
        omega
      · rename_i q
        rw [if_neg q] at k
        obtain ⟨u, h1, h2⟩ := h
        obtain ⟨u', k1, k2⟩ := k
        obtain rfl := h1.uniq k1
        split at h2
        · rename_i q
          rw [if_pos q] at k2
          omega
        · rename_i q
          rw [if_neg q] at k2
          omega
theorem formed_V (v : V) (w : World) : Calls Tryz.prog 61 #[.agg #[.int .i64 v.a, .int .i64 v.b, .int .i64 v.c, .int .i64 v.d]] w fun e w' => e = .returned (.bool v.ok) ∧ Below w.heap.size w w' := formed_any v.a v.b v.c v.d w
end Go.Proofs.YtjgibngnjlciaaaGreat
