/-
  Plain mathematics: how a word is quoted.
-/
import Derived.Test.YtlknklpjlljfjaaScan
import Derived.Test.YtlknklpjlljfjaaNames
namespace Go.Proofs.Ytlknklpjlljfjaa.Txt

def hasB (l : List UInt8) : Bool := l.any fun b => decide (b.toNat = 32 ∨ b.toNat = 34)

theorem hasB_snoc (l : List UInt8) (b : UInt8) : hasB (l ++ [b]) = (hasB l || decide (b.toNat = 32 ∨ b.toNat = 34)) := by
  simp [hasB]

def esc : List UInt8 → List UInt8
  | [] => []
  | b :: l => if b.toNat = 34 ∨ b.toNat = 92 then 92 :: b :: esc l else b :: esc l

theorem esc_append (l m : List UInt8) : esc (l ++ m) = esc l ++ esc m := by
  induction l with
  | nil => rfl
  | cons b l ih =>
    simp only [List.cons_append, esc]
    split <;> simp [ih]

theorem esc_one_marked (b : UInt8) (h : b.toNat = 34 ∨ b.toNat = 92) : esc [b] = [92, b] := by simp [esc, h]
theorem esc_one_plain (b : UInt8) (h : ¬ (b.toNat = 34 ∨ b.toNat = 92)) : esc [b] = [b] := by simp [esc, h]

theorem esc_length (l : List UInt8) : (esc l).length ≤ 2 * l.length := by
  induction l with
  | nil => simp [esc]
  | cons b l ih =>
    simp only [esc]
    split <;> simp <;> omega

def quo (l : List UInt8) : List UInt8 := if l ≠ [] ∧ hasB l = false then l else 34 :: (esc l ++ [34])

end Go.Proofs.Ytlknklpjlljfjaa.Txt
