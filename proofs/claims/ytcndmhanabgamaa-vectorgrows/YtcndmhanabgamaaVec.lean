/-
  Plain mathematics of vectors: when one is formed, fits, comes first.
-/
import Derived.Test.YtcndmhanabgamaaRows
namespace Go.Proofs.Ytcndmhanabgamaa

/-- a number that a formed vector may have -/
def okI (x : Int) : Bool := decide (0 ≤ x ∧ x ≤ 1099511627776)
def fm (a b c d : Int) : Bool := okI a && (okI b && (okI c && okI d))
/-- which comes first -/
def o1 (a b : Int) (r : Int) : Int := if a < b then -1 else if b < a then 1 else r
def cm (a b c d e f g h : Int) : Int := o1 a e (o1 b f (o1 c g (o1 d h 0)))
def ft (a b c d e f g h : Int) : Bool := decide (a ≤ e) && (decide (b ≤ f) && (decide (c ≤ g) && decide (d ≤ h)))

theorem okI_yes {x : Int} (h0 : ¬ x < 0) (h1 : ¬ 1099511627776 < x) : okI x = true := by unfold okI; exact decide_eq_true ⟨by omega, by omega⟩
theorem okI_neg {x : Int} (h0 : x < 0) : okI x = false := by unfold okI; exact decide_eq_false (by omega)
theorem okI_top {x : Int} (h0 : 1099511627776 < x) : okI x = false := by unfold okI; exact decide_eq_false (by omega)
theorem okI_iff {x : Int} : okI x = true ↔ 0 ≤ x ∧ x ≤ 1099511627776 := by unfold okI; exact decide_eq_true_iff

end Go.Proofs.Ytcndmhanabgamaa
