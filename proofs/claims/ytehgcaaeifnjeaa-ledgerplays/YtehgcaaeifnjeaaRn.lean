/-
  The document's Same, of rows that say the same.
-/
import Derived.Test.YtehgcaaeifnjeaaRm
import Derived.BigRegion
namespace Go.Proofs.Ytehgcaaeifnjeaa
open Go.RowKit Go.Maps

theorem SR.get {b : Nat} {w : World} {q : Option Addr} {n c : Nat} {L : List (List UInt8)} (h : SR b w (.slice q n c) L) {k : Nat} {s : List UInt8} (hk : L[k]? = some s) : ∃ g, q = some ⟨g, 0, none⟩ ∧ w.cell? ⟨g, k, none⟩ = some (.string ⟨⟨s⟩⟩) := by
  obtain ⟨g, hg, hc⟩ := h.at sC_len hk
  refine ⟨g, hg, ?_⟩
  have := hc 0 _ rfl
  rwa [Nat.mul_one, Nat.add_zero] at this
set_option maxHeartbeats 2000000 in
set_option maxRecDepth 100000 in
theorem rsame_raw (w : World) (n c1' c2' b1 b2 : Nat) (q1 q2 : Option Addr) (L : List (List UInt8)) (h1 : Hid (SR b1 w (.slice q1 n c1') L)) (h2 : Hid (SR b2 w (.slice q2 n c2') L)) (hn : n ≤ 1152921504606846976) :
    Calls Try.prog 16 #[.slice q1 n c1', .slice q2 n c2'] w fun e w' => e = .returned (.bool true) ∧ Hid (Below w.heap.size w w') := by
  have hl : Hid (L.length = n) := h1.out.len.symm
  go_enter Try.func16, Try.ntmps16
  go_wp2_with fail
  go_loopw [5] (fun x wr => ∃ k : Nat, x = .int .i64 k ∧ k ≤ n ∧ Hid (Below w.heap.size w wr)) (fun x _ => n - (intOf x).toNat)
  case atStart => exact ⟨0, rfl, Nat.zero_le _, Below.refl _ _⟩
  case round =>
    obtain ⟨k, rfl, hk, HB⟩ := hrel
    by_cases h0 : k = n
    · subst h0
      go_wp2_with fail
      go_ret
      exact ⟨rfl, HB⟩
    · have hlt' : (k : Int) < (n : Int) := by omega
      obtain ⟨a, ha⟩ : ∃ a, L[k]? = some a := ⟨L[k]'(by have := hl.out; omega), List.getElem?_eq_getElem _⟩
      obtain ⟨g1, rfl, l1⟩ := SR.get (h1.out.below HB.out) ha
      obtain ⟨g2, rfl, l2⟩ := SR.get (h2.out.below HB.out) ha
      have HD : Hid (∀ i, Below w.heap.size w (wr.drewN i)) := fun i => below_from HB.out (below_drewN (Below.refl _ wr) i) HB.out.size
      clear ha h1 h2
      go_wp2_with fail
      go_region
      all_goals go_wp2_with fail
      all_goals exact ⟨⟨k + 1, by simp, by omega, HD.out _⟩, by simp only [intOf]; omega⟩
end Go.Proofs.Ytehgcaaeifnjeaa
