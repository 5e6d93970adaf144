/-
  The walks of the laws RunesChecks and RunesBoth: each returns true and writes nothing that was there.
-/
import Derived.Test.YtlknklpjlljfjaaWalkG
namespace Go.Proofs.Ytlknklpjlljfjaa
open Go.RowKit

set_option maxHeartbeats 2000000 in
set_option maxRecDepth 100000 in
theorem law_checks (s : ByteArray) (w : World) (hs : s.size ≤ 140737488351232) :
    Calls Try.prog 3 #[.string s] w fun e w' => e = .returned (.bool true) ∧ Below w.heap.size w w' := by
  obtain ⟨c, p, er, hcs⟩ : ∃ c p er, Txt.check s = (c, p, er) := ⟨_, _, _, rfl⟩
  have HK : Hid (Txt.check s = (c, p, er)) := hcs
  clear hcs
  obtain ⟨b, hbn⟩ : ∃ b, Txt.name s = b := ⟨_, rfl⟩
  have HB : Hid (Txt.name s = b) := hbn
  clear hbn
  have hrn : ∀ w, Calls Try.prog 13 #[.string s] w fun e w' => e = .returned (.bool b) ∧ w' = w := by
    intro w
    have := rname_any s w (by omega)
    rw [HB.out] at this
    exact this
  have HR : Hid (∀ w, Calls Try.prog 13 #[.string s] w fun e w' => e = .returned (.bool b) ∧ w' = w) := hrn
  clear hrn
  go_enter Try.func3, Try.ntmps3
  go_wp2_with (go_at_call 9; refine (awake_any _).mono ?_)
  rintro e w1 ⟨rfl, b1⟩
  go_wp2_with (go_at_call 10; refine (check_at s _ (by omega) c p er HK.out).mono ?_)
  rintro e w2 ⟨rfl, b2⟩
  go_wp2_with (go_at_call 11; refine (rcheck_at s _ (by omega) c p er HK.out).mono ?_)
  rintro e w2' ⟨rfl, rfl⟩
  go_wp2_with (go_at_call 12; refine (name_is s b _ (by omega) HB.out).mono ?_)
  rintro e w3 ⟨rfl, b3⟩
  go_wp2_with (go_at_call 13; refine (HR.out _).mono ?_)
  rintro e w3' ⟨rfl, rfl⟩
  go_wp2
  go_ret
  exact ⟨by simp, (b1.trans (b2.mono b1.size)).trans (b3.mono (Nat.le_trans b1.size b2.size))⟩

end Go.Proofs.Ytlknklpjlljfjaa
