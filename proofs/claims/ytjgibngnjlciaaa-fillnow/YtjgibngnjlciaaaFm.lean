/-
  What is looked at; the laws' arguments.
-/
import Derived.Test.YtjgibngnjlciaaaFl
namespace Go.Proofs.Ytjgibngnjlciaaa
open Go.RowKit Go.Maps

def vS (v : Vi) : Bool := decide (v.nT ≤ 20) && decide (v.nN ≤ 20)
def fewV (nH nL : Nat) (L : List Vi) (m : Nat) : Bool := L.all vS && (decide (nH ≤ 100) && (decide (nL ≤ 100) && (decide (L.length ≤ 30) && decide (m ≤ 30))))
/-- what is asked -/
abbrev xA (now rt : Int) (qH : Option Addr) (nH cH : Nat) (qL : Option Addr) (nL cL : Nat) : Value := .agg #[.int .i64 now, .int .i64 rt, .slice qH nH cH, .slice qL nL cL]
set_option maxHeartbeats 2000000 in
set_option maxRecDepth 100000 in
theorem few18 (L : List Vi) (now rt : Int) (qH qL qv r : Option Addr) (nH cH nL cL nv cv m d : Nat) (w : World) (hL : Hid (VA w qv L)) (hn : Hid (L.length = nv)) (h63 : nv ≤ 9223372036854775807) :
    Calls Try.prog 8 #[xA now rt qH nH cH qL nL cL, .slice qv nv cv, .slice r m d] w fun e w' => e = .returned (.bool (fewV nH nL L m)) ∧ Hid (Below w.heap.size w w') := by
  have X0 : Hid (Below w.heap.size w (w.alloc (.cells #[.int .i64 now, .int .i64 rt, .slice qH nH cH, .slice qL nL cL] 24))) := (Below.refl _ _).alloc (Nat.le_refl _) _
  go_enter Try.func8, Try.ntmps8
  go_wp2_with fail
  go_loopw [7] (fun y wr => ∃ (k : Nat), y = .int .i64 k ∧ k ≤ nv ∧ Hid ((L.take k).all vS = true ∧ Below w.heap.size w wr ∧ wr.heap[w.heap.size]? = some (.cells #[.int .i64 now, .int .i64 rt, .slice qH nH cH, .slice qL nL cL] 24))) (fun y _ => nv - (intOf y).toNat)
  case atStart => exact ⟨0, rfl, Nat.zero_le _, rfl, X0.out, new0⟩
  case round =>
    clear X0
    obtain ⟨k, rfl, hk, HT⟩ := hrel
    by_cases h0 : k = nv
    · subst h0
      have HE : Hid (L.all vS = true ∧ Below w.heap.size w wr) := by
        have h1 := HT.out
        rw [List.take_of_length_le (Nat.le_of_eq hn.out)] at h1
        exact ⟨h1.1, h1.2.1⟩
      have HX : Hid (fewV nH nL L m = (decide (nH ≤ 100) && (decide (nL ≤ 100) && (decide (k ≤ 30) && decide (m ≤ 30))))) := by show _ = _; unfold fewV; rw [HE.out.1, hn.out]; rfl
      have e2 := Lib.cell_of_heap HT.out.2.2 2
      have e3 := Lib.cell_of_heap HT.out.2.2 3
      clear HT
      by_cases a1 : nH ≤ 100
      · have a2 : (nH : Int) ≤ 100 := by omega
        have a3 : decide ((nH : Int) ≤ 100) = true := decide_eq_true a2
        by_cases z1 : nL ≤ 100
        · have z2 : (nL : Int) ≤ 100 := by omega
          have z3 : decide ((nL : Int) ≤ 100) = true := decide_eq_true z2
          by_cases b1 : k ≤ 30
          · have b2 : (k : Int) ≤ 30 := by omega
            have b3 : decide ((k : Int) ≤ 30) = true := decide_eq_true b2
            by_cases c1 : m ≤ 30
            · have c2 : (m : Int) ≤ 30 := by omega
              have c3 : decide ((m : Int) ≤ 30) = true := decide_eq_true c2
              go_wp2_with fail
              go_ret
              exact ⟨by rw [HX.out, decide_eq_true a1, decide_eq_true z1, decide_eq_true b1, decide_eq_true c1]; rfl, HE.out.2⟩
            · have c2 : ¬ (m : Int) ≤ 30 := by omega
              have c3 : decide ((m : Int) ≤ 30) = false := decide_eq_false c2
              go_wp2_with fail
              go_ret
              exact ⟨by rw [HX.out, decide_eq_true a1, decide_eq_true z1, decide_eq_true b1, decide_eq_false c1]; rfl, HE.out.2⟩
          · have b2 : ¬ (k : Int) ≤ 30 := by omega
            have b3 : decide ((k : Int) ≤ 30) = false := decide_eq_false b2
            go_wp2_with fail
            go_ret
            exact ⟨by rw [HX.out, decide_eq_true a1, decide_eq_true z1, decide_eq_false b1]; rfl, HE.out.2⟩
        · have z2 : ¬ (nL : Int) ≤ 100 := by omega
          have z3 : decide ((nL : Int) ≤ 100) = false := decide_eq_false z2
          go_wp2_with fail
          go_ret
          exact ⟨by rw [HX.out, decide_eq_true a1, decide_eq_false z1]; rfl, HE.out.2⟩
      · have a2 : ¬ (nH : Int) ≤ 100 := by omega
        have a3 : decide ((nH : Int) ≤ 100) = false := decide_eq_false a2
        go_wp2_with fail
        go_ret
        exact ⟨by rw [HX.out, decide_eq_false a1]; rfl, HE.out.2⟩
    · have hlt' : (k : Int) < (nv : Int) := by omega
      have hd : decide ((k : Int) < (nv : Int)) = true := decide_eq_true hlt'
      obtain ⟨v, hv⟩ : ∃ v, L[k]? = some v := ⟨L[k]'(by have := hn.out; omega), List.getElem?_eq_getElem _⟩
      obtain ⟨g, o, rfl, c0, c1, c2, c3⟩ := VA.at (hL.out.below HT.out.2.1) hv
      have HV : Hid (L[k]? = some v) := hv
      clear hv
      have HG : Hid (vS v = (decide (v.nT ≤ 20) && decide (v.nN ≤ 20))) := (rfl : _ = _)
      generalize v.nT = nT at *
      generalize v.nN = nN at *
      by_cases a1 : nT ≤ 20
      · have a2 : ¬ (20 : Int) < (nT : Int) := by omega
        have a3 : decide ((20 : Int) < (nT : Int)) = false := decide_eq_false a2
        by_cases b1 : nN ≤ 20
        · have b2 : ¬ (20 : Int) < (nN : Int) := by omega
          have b3 : decide ((20 : Int) < (nN : Int)) = false := decide_eq_false b2
          go_wp2_with fail
          exact ⟨⟨k + 1, by simp, by omega, all_take vS HV.out HT.out.1 (by rw [HG.out, decide_eq_true a1, decide_eq_true b1]; rfl), HT.out.2⟩, by simp only [intOf]; omega⟩
        · have b2 : (20 : Int) < (nN : Int) := by omega
          have b3 : decide ((20 : Int) < (nN : Int)) = true := decide_eq_true b2
          go_wp2_with fail
          go_ret
          exact ⟨by unfold fewV; rw [all_bad vS HV.out (by rw [HG.out, decide_eq_false b1, Bool.and_false]; decide)]; rfl, HT.out.2.1⟩
      · have a2 : (20 : Int) < (nT : Int) := by omega
        have a3 : decide ((20 : Int) < (nT : Int)) = true := decide_eq_true a2
        go_wp2_with fail
        go_ret
        exact ⟨by unfold fewV; rw [all_bad vS HV.out (by rw [HG.out, decide_eq_false a1, Bool.false_and]; decide)]; rfl, HT.out.2.1⟩
/-! ### the laws' arguments -/
structure Vi.pre (w : World) (v : Vi) : Prop where
  i : v.in6
  t : TA w v.qT v.T
  ct : v.qT = none → v.cT = 0
  lt : v.T.length = v.nT
  n : NA w v.qN v.N
  cn : v.qN = none → v.cN = 0
  ln : v.N.length = v.nN
  sn : ∀ s ∈ v.N, s.length ≤ 281474976710656
structure LwA (w : World) (now rt : Int) (qH : Option Addr) (nH cH : Nat) (T : List V) (qL : Option Addr) (nL cL : Nat) (U : List V) (qv : Option Addr) (nv : Nat) (L : List Vi) (r : Option Addr) (m d : Nat) (S : List Sl) : Prop where
  n : in64 now
  u : in64 rt
  t : TA w qH T
  ct : qH = none → cH = 0
  tn : T.length = nH
  t2 : TA w qL U
  ct2 : qL = none → cL = 0
  tn2 : U.length = nL
  v : VA w qv L
  o : ∀ v ∈ L, v.pre w
  vl : L.length = nv
  s : SlS w r m d S
  h63 : nv ≤ 9223372036854775807
theorem fewV_le {nH nL m : Nat} {L : List Vi} (h : fewV nH nL L m = true) : L.all vS = true ∧ nH ≤ 100 ∧ nL ≤ 100 ∧ L.length ≤ 30 ∧ m ≤ 30 := by
  unfold fewV at h
  simp only [Bool.and_eq_true, decide_eq_true_eq] at h
  exact h
section
variable {w w1 : World} {now rt : Int} {qH qL qv r : Option Addr} {nH cH nL cL nv m d : Nat} {T U : List V} {L : List Vi} {S : List Sl}
theorem LwA.ok (h : LwA w now rt qH nH cH T qL nL cL U qv nv L r m d S) (hf : fewV nH nL L m = true) : VOk w L := fun v hv => by
  obtain ⟨h1, h2, h3, h4, h5⟩ := fewV_le hf
  have h5 := h.o v hv
  have h6 := List.all_eq_true.1 h1 v hv
  unfold vS at h6
  simp only [Bool.and_eq_true, decide_eq_true_eq] at h6
  exact ⟨h5.i.1, h5.i.2, h5.t, h5.ct, h5.lt, h5.n, h5.cn, h5.ln, h5.sn, by omega, by omega⟩
theorem LwA.st (h : LwA w now rt qH nH cH T qL nL cL U qv nv L r m d S) (hf : fewV nH nL L m = true) : StG w qH nH cH qv nv r m d T L S := by
  obtain ⟨h1, h2, h3, h4, h5⟩ := fewV_le hf
  exact ⟨h.t, h.tn, h.s, h.v, h.ok hf, h.vl, by omega, by have := h.vl; omega, by omega, h.ct⟩
theorem LwA.few (h : LwA w now rt qH nH cH T qL nL cL U qv nv L r m d S) (cv : Nat) : ∀ W, Below w.heap.size w W → Calls Try.prog 8 #[xA now rt qH nH cH qL nL cL, .slice qv nv cv, .slice r m d] W fun e w' => e = .returned (.bool (fewV nH nL L m)) ∧ Hid (Below W.heap.size W w') := fun W b => few18 L now rt qH qL qv r nH cH nL cL nv cv m d W (h.v.below b) h.vl h.h63
end
theorem awk (w : World) : ∀ W, Below w.heap.size w W → Calls Try.prog 7 #[] W fun e w' => e = .returned (.bool true) ∧ Hid (Below w.heap.size w w') := fun W b => (awake18 W).mono fun _ _ q => ⟨q.1, below_from b q.2 b.size⟩
end Go.Proofs.Ytjgibngnjlciaaa
