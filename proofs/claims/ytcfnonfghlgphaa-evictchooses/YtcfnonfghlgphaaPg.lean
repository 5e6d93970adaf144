/-
  The laws' awake and few.
-/
import Derived.Test.YtcfnonfghlgphaaPf
namespace Go.Proofs.Ytcfnonfghlgphaa
open Go.RowKit Go.Maps Go.Sort

def aT : List V := [⟨1, 0, 0, 0⟩, ⟨3, 0, 0, 0⟩]
def aS : List Sl := [⟨[97], ⟨3, 0, 0, 0⟩⟩, ⟨[98], ⟨3, 0, 0, 0⟩⟩]
theorem fit_awake : fitR aT aS = (0, [[98], [97]]) := by decide +kernel
def fewB (n m : Nat) : Bool := decide (n ≤ 100) && decide (m ≤ 100)
end Go.Proofs.Ytcfnonfghlgphaa
