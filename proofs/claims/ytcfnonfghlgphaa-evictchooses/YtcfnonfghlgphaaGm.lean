/-
  What is looked at.
-/
import Derived.Test.YtcfnonfghlgphaaGl
namespace Go.Proofs.Ytcfnonfghlgphaa
open Go.RowKit Go.Maps

def vS (v : Vi) : Bool := decide (v.nT ≤ 20) && decide (v.nN ≤ 20)
def fewV (n : Nat) (L : List Vi) (m : Nat) : Bool := L.all vS && (decide (n ≤ 100) && (decide (L.length ≤ 60) && decide (m ≤ 40)))
set_option maxHeartbeats 2000000 in
set_option maxRecDepth 100000 in
theorem few17 (L : List Vi) (q qv r : Option Addr) (n c nv cv m d : Nat) (w : World) (hL : Hid (VA w qv L)) (hn : Hid (L.length = nv)) (h63 : nv ≤ 9223372036854775807) :
    Calls Try.prog 14 #[.slice q n c, .slice qv nv cv, .slice r m d] w fun e w' => e = .returned (.bool (fewV n L m)) ∧ Hid (Below w.heap.size w w') := by
  go_enter Try.func14, Try.ntmps14
  go_wp2_with fail
  go_loopw [7] (fun y wr => ∃ (k : Nat), y = .int .i64 k ∧ k ≤ nv ∧ Hid ((L.take k).all vS = true ∧ Below w.heap.size w wr)) (fun y _ => nv - (intOf y).toNat)
  case atStart => exact ⟨0, rfl, Nat.zero_le _, rfl, Below.refl _ _⟩
  case round =>
    obtain ⟨k, rfl, hk, HT⟩ := hrel
    by_cases h0 : k = nv
    · subst h0
      have HE : Hid (L.all vS = true ∧ Below w.heap.size w wr) := by
        have h1 := HT.out
        rw [List.take_of_length_le (Nat.le_of_eq hn.out)] at h1
        exact h1
      have HX : Hid (fewV n L m = (decide (n ≤ 100) && (decide (k ≤ 60) && decide (m ≤ 40)))) := by show _ = _; unfold fewV; rw [HE.out.1, hn.out]; rfl
      clear HT
      by_cases a1 : n ≤ 100
      · have a2 : (n : Int) ≤ 100 := by omega
        have a3 : decide ((n : Int) ≤ 100) = true := decide_eq_true a2
        by_cases b1 : k ≤ 60
        · have b2 : (k : Int) ≤ 60 := by omega
          have b3 : decide ((k : Int) ≤ 60) = true := decide_eq_true b2
          by_cases c1 : m ≤ 40
          · have c2 : (m : Int) ≤ 40 := by omega
            have c3 : decide ((m : Int) ≤ 40) = true := decide_eq_true c2
            go_wp2_with fail
            go_ret
            exact ⟨by rw [HX.out, decide_eq_true a1, decide_eq_true b1, decide_eq_true c1]; rfl, HE.out.2⟩
          · have c2 : ¬ (m : Int) ≤ 40 := by omega
            have c3 : decide ((m : Int) ≤ 40) = false := decide_eq_false c2
            go_wp2_with fail
            go_ret
            exact ⟨by rw [HX.out, decide_eq_true a1, decide_eq_true b1, decide_eq_false c1]; rfl, HE.out.2⟩
        · have b2 : ¬ (k : Int) ≤ 60 := by omega
          have b3 : decide ((k : Int) ≤ 60) = false := decide_eq_false b2
          go_wp2_with fail
          go_ret
          exact ⟨by rw [HX.out, decide_eq_true a1, decide_eq_false b1]; rfl, HE.out.2⟩
      · have a2 : ¬ (n : Int) ≤ 100 := by omega
        have a3 : decide ((n : Int) ≤ 100) = false := decide_eq_false a2
        go_wp2_with fail
        go_ret
        exact ⟨by rw [HX.out, decide_eq_false a1]; rfl, HE.out.2⟩
    · have hlt' : (k : Int) < (nv : Int) := by omega
      have hd : decide ((k : Int) < (nv : Int)) = true := decide_eq_true hlt'
      obtain ⟨v, hv⟩ : ∃ v, L[k]? = some v := ⟨L[k]'(by have := hn.out; omega), List.getElem?_eq_getElem _⟩
      obtain ⟨g, o, rfl, c0, c1, c2, c3, c4⟩ := VA.at (hL.out.below HT.out.2) hv
      have HV : Hid (L[k]? = some v) := hv
      clear hv
      have HG : Hid (vS v = (decide (v.nT ≤ 20) && decide (v.nN ≤ 20))) := (rfl : _ = _)
      generalize v.nT = nT at *
      generalize v.nN = nN at *
      by_cases a1 : nT ≤ 20
      · have a2 : ¬ (20 : Int) < (nT : Int) := by omega
        have a3 : decide ((20 : Int) < (nT : Int)) = false := decide_eq_false a2
        by_cases b1 : nN ≤ 20
        · have b2 : ¬ (20 : Int) < (nN : Int) := by omega
          have b3 : decide ((20 : Int) < (nN : Int)) = false := decide_eq_false b2
          go_wp2_with fail
          exact ⟨⟨k + 1, by simp, by omega, all_take vS HV.out HT.out.1 (by rw [HG.out, decide_eq_true a1, decide_eq_true b1]; rfl), HT.out.2⟩, by simp only [intOf]; omega⟩
        · have b2 : (20 : Int) < (nN : Int) := by omega
          have b3 : decide ((20 : Int) < (nN : Int)) = true := decide_eq_true b2
          go_wp2_with fail
          go_ret
          exact ⟨by unfold fewV; rw [all_bad vS HV.out (by rw [HG.out, decide_eq_false b1, Bool.and_false]; decide)]; rfl, HT.out.2⟩
      · have a2 : (20 : Int) < (nT : Int) := by omega
        have a3 : decide ((20 : Int) < (nT : Int)) = true := decide_eq_true a2
        go_wp2_with fail
        go_ret
        exact ⟨by unfold fewV; rw [all_bad vS HV.out (by rw [HG.out, decide_eq_false a1, Bool.false_and]; decide)]; rfl, HT.out.2⟩
end Go.Proofs.Ytcfnonfghlgphaa
