/-
  The laws' awake. What is looked at; the laws' arguments. The laws' arguments, opened: runs, what is asked.
-/
import Derived.Test.YtjgibngnjlciaaaGreatFk
import Derived.Test.YtjgibngnjlciaaaGreatOpen
namespace Go.Proofs.YtjgibngnjlciaaaGreat
open Go.RowKit Go.Maps

def aT18 : List V := [⟨4, 0, 0, 0⟩]
def aR18 : List V := [⟨3, 0, 0, 0⟩]
def aS18 : List Sl := [⟨[97], ⟨1, 0, 0, 0⟩⟩]
def aV18 (a b : Nat) : Vi := ⟨1, 10, some ⟨a, 0, none⟩, 1, 1, some ⟨b, 0, none⟩, 1, 1, aR18, [[97]]⟩
theorem st_awake (a b : Nat) : startR 0 aT18 [aV18 a b] aS18 = (10, [[97]], 0) := by
  have h1 : (fitR aT18 aS18).1 = 6 := by decide +kernel
  have h3 : (gvG [aV18 a b] aS18).1 = 0 := by
    unfold gvG gvG
    have e : movR addR (aV18 a b).T (aV18 a b).N aS18 = (0, [⟨[97], ⟨4, 0, 0, 0⟩⟩]) := by
      show movR addR aR18 [[97]] aS18 = _
      decide +kernel
    rw [e]; rfl
  have h5 : stA 0 [aV18 a b] aS18 10 = [⟨[97], ⟨4, 0, 0, 0⟩⟩] := by rfl
  have h6 : fitR aT18 [⟨[97], ⟨4, 0, 0, 0⟩⟩] = (0, [[97]]) := by decide +kernel
  have h7 : staN 0 aT18 [aV18 a b] aS18 = some 10 := by
    refine staN_some.2 ⟨cand_mem.2 (.inr ⟨aV18 a b, List.mem_singleton.2 rfl, rfl⟩), ?_, fun u hu hf => ?_⟩
    · unfold fitT; rw [h5, h6]
    · rcases cand_mem.1 hu with rfl | ⟨r, hr, rfl⟩
      · unfold fitT at hf
        rw [stA_now, h1] at hf
        cases hf
      · rw [List.mem_singleton.1 hr]
        exact Int.le_refl _
  rw [startR_some (by rfl) (.inr h1) h3 h7, h5, h6]
set_option maxHeartbeats 1000000 in
set_option maxRecDepth 100000 in
theorem awake18 (w : World) : Calls Tryz.prog 4 #[] w fun e w' => e = .returned (.bool true) ∧ Below w.heap.size w w' := by
  have H15 : Hid (∀ (W : World) (a b d e f : Nat), W.heap[a]? = some (.cells #[.int .i64 3, .int .i64 0, .int .i64 0, .int .i64 0] 40 (0, 0)) → W.heap[b]? = some (.cells #[.string ⟨#[97]⟩] 9 (0, 0)) → W.heap[d]? = some (.cells #[.int .i64 4, .int .i64 0, .int .i64 0, .int .i64 0] 40 (0, 0)) →
      W.heap[e]? = some (.cells #[.int .i64 1, .int .i64 10, .slice (some ⟨a, 0, none⟩) 1 1, .slice (some ⟨b, 0, none⟩) 1 1] 42 (0, 0)) → W.heap[f]? = some (.cells #[.string ⟨#[97]⟩, .int .i64 1, .int .i64 0, .int .i64 0, .int .i64 0] 46 (0, 0)) →
      Calls Tryz.prog 11 #[.int .i64 0, .slice (some ⟨d, 0, none⟩) 1 1, .slice (some ⟨e, 0, none⟩) 1 1, .slice (some ⟨f, 0, none⟩) 1 1] W fun r w' => ∃ gn on cn, r = .returned (.tuple #[.int .i64 10, .slice (some ⟨gn, on, none⟩) 1 cn, .int .i64 0]) ∧ w'.cell? ⟨gn, on, none⟩ = some (.string ⟨#[97]⟩) ∧ Hid (Below W.heap.size W w')) := fun W a b d e f ha hb hd he hf => by
    have tT : ∀ g x, W.heap[g]? = some (.cells #[.int .i64 x, .int .i64 0, .int .i64 0, .int .i64 0] 40 (0, 0)) → TA W (some ⟨g, 0, none⟩) [⟨x, 0, 0, 0⟩] := fun g x hg i v hv => by
      refine ⟨_, 0, rfl, fun j u hu => ?_⟩
      match i, hv, j, hu with
      | 0, hv, 0, hu => cases hv; cases hu; exact Lib.cell_of_heap hg 0
      | 0, hv, 1, hu => cases hv; cases hu; exact Lib.cell_of_heap hg 1
      | 0, hv, 2, hu => cases hv; cases hu; exact Lib.cell_of_heap hg 2
      | 0, hv, 3, hu => cases hv; cases hu; exact Lib.cell_of_heap hg 3
    have oV : (aV18 a b).ok W := by
      refine ⟨(by show in64 1; decide), (by show in64 10; decide), tT a 3 ha, (fun e => nomatch e), rfl, fun i v hv => ?_, (fun e => nomatch e), rfl, fun s hs => ?_, by show 1 ≤ _; omega, by show 1 ≤ _; omega⟩
      · refine ⟨_, 0, rfl, fun j u hu => ?_⟩
        match i, hv, j, hu with
        | 0, hv, 0, hu => cases hv; cases hu; exact Lib.cell_of_heap hb 0
      · obtain rfl := List.mem_singleton.1 hs
        show 1 ≤ _; omega
    refine (start_any 0 (some ⟨d, 0, none⟩) (some ⟨e, 0, none⟩) (some ⟨f, 0, none⟩) 1 1 1 1 1 1 aT18 [aV18 a b] aS18 W ⟨tT d 4 hd, rfl, ⟨fun i v hv => ?_, fun s hs => ?_, (fun e => nomatch e), rfl⟩, fun i v hv => ?_, fun v hv => ?_, rfl, by omega, by omega, by omega, (fun e => nomatch e)⟩).mono ?_
    · refine ⟨_, 0, rfl, fun j u hu => ?_⟩
      match i, hv, j, hu with
      | 0, hv, 0, hu => cases hv; cases hu; exact Lib.cell_of_heap hf 0
      | 0, hv, 1, hu => cases hv; cases hu; exact Lib.cell_of_heap hf 1
      | 0, hv, 2, hu => cases hv; cases hu; exact Lib.cell_of_heap hf 2
      | 0, hv, 3, hu => cases hv; cases hu; exact Lib.cell_of_heap hf 3
      | 0, hv, 4, hu => cases hv; cases hu; exact Lib.cell_of_heap hf 4
    · obtain rfl := List.mem_singleton.1 hs
      show 1 ≤ _; omega
    · refine ⟨_, 0, rfl, fun j u hu => ?_⟩
      match i, hv, j, hu with
      | 0, hv, 0, hu => cases hv; cases hu; exact Lib.cell_of_heap he 0
      | 0, hv, 1, hu => cases hv; cases hu; exact Lib.cell_of_heap he 1
      | 0, hv, 2, hu => cases hv; cases hu; exact Lib.cell_of_heap he 2
      | 0, hv, 3, hu => cases hv; cases hu; exact Lib.cell_of_heap he 3
    · obtain rfl := List.mem_singleton.1 hv
      exact oV
    · rintro r w' ⟨p, k, c, rfl, h1, h2, h3⟩
      have h4 := h3.out
      rw [st_awake] at h4 h1 ⊢
      have h6 : k = 1 := h1.symm
      subst h6
      obtain ⟨g', o', rfl, c1⟩ := h4.1 0 _ rfl
      exact ⟨g', o', c, rfl, c1 0 _ rfl, h4.2⟩
  go_enter Tryz.func4, Tryz.ntmps4
  go_upto_region 2 with fail
  have NA := at_alloc (o := .cells #[.int .i64 1, .int .i64 10, .slice (some ⟨w.heap.size, 0, none⟩) 1 1, .slice (some ⟨w.heap.size + 1, 0, none⟩) 1 1] 42) (first0 (w := w) (A := .cells #[.int .i64 3, .int .i64 0, .int .i64 0, .int .i64 0] 40) (B := .cells #[.string ⟨#[97]⟩] 9))
  have NB := at_alloc (o := .cells #[.int .i64 1, .int .i64 10, .slice (some ⟨w.heap.size, 0, none⟩) 1 1, .slice (some ⟨w.heap.size + 1, 0, none⟩) 1 1] 42) (first1 (w := w) (A := .cells #[.int .i64 3, .int .i64 0, .int .i64 0, .int .i64 0] 40) (B := .cells #[.string ⟨#[97]⟩] 9))
  have NC := new2 (w := w) (A := .cells #[.int .i64 3, .int .i64 0, .int .i64 0, .int .i64 0] 40) (B := .cells #[.string ⟨#[97]⟩] 9) (C := .cells #[.int .i64 1, .int .i64 10, .slice (some ⟨w.heap.size, 0, none⟩) 1 1, .slice (some ⟨w.heap.size + 1, 0, none⟩) 1 1] 42)
  have BW : Hid (Below w.heap.size w (((w.alloc (.cells #[.int .i64 3, .int .i64 0, .int .i64 0, .int .i64 0] 40)).alloc (.cells #[.string ⟨#[97]⟩] 9)).alloc (.cells #[.int .i64 1, .int .i64 10, .slice (some ⟨w.heap.size, 0, none⟩) 1 1, .slice (some ⟨w.heap.size + 1, 0, none⟩) 1 1] 42))) := (((Below.refl _ w).alloc (Nat.le_refl _) _).alloc (by simp) _).alloc (by simp; omega) _
  generalize ((w.alloc (.cells #[.int .i64 3, .int .i64 0, .int .i64 0, .int .i64 0] 40)).alloc (.cells #[.string ⟨#[97]⟩] 9)).alloc (.cells #[.int .i64 1, .int .i64 10, .slice (some ⟨w.heap.size, 0, none⟩) 1 1, .slice (some ⟨w.heap.size + 1, 0, none⟩) 1 1] 42) = W3 at *
  have c0 := Lib.cell_of_heap NC 0
  have c1 := Lib.cell_of_heap NC 1
  have c2 := Lib.cell_of_heap NC 2
  have c3 := Lib.cell_of_heap NC 3
  have hlt := (Array.getElem?_eq_some_iff.1 NC).1
  go_wp2_with (go_at_call 11; refine (H15.out _ _ _ _ _ _ (at_alloc (at_alloc (at_alloc NA))) (at_alloc (at_alloc (at_alloc NB))) (at_alloc first0) (at_alloc first1) new2).mono ?_; rintro e w7 ⟨gn, on, cn, rfl, y1, b7⟩)
  go_ret
  exact ⟨rfl, below_from BW.out ((((Below.refl _ W3).alloc (Nat.le_refl _) _).alloc (by simp) _).alloc (by simp; omega) _ |>.trans (b7.out.mono (by simp; omega))) BW.out.size⟩
end Go.Proofs.YtjgibngnjlciaaaGreat

namespace Go.Proofs.YtjgibngnjlciaaaGreat
open Go.RowKit Go.Maps

def vS (v : Vi) : Bool := decide (v.nT ≤ 20) && decide (v.nN ≤ 20)
def fewV (nH nL : Nat) (L : List Vi) (m : Nat) : Bool := L.all vS && (decide (nH ≤ 100) && (decide (nL ≤ 100) && (decide (L.length ≤ 30) && decide (m ≤ 30))))
/-- what is asked -/
abbrev xA (now rt : Int) (qH : Option Addr) (nH cH : Nat) (qL : Option Addr) (nL cL : Nat) : Value := .agg #[.int .i64 now, .int .i64 rt, .slice qH nH cH, .slice qL nL cL]
set_option maxHeartbeats 2000000 in
set_option maxRecDepth 100000 in
theorem few18 (L : List Vi) (now rt : Int) (qH qL qv r : Option Addr) (nH cH nL cL nv cv m d : Nat) (w : World) (hL : Hid (VA w qv L)) (hn : Hid (L.length = nv)) (h63 : nv ≤ 9223372036854775807) :
    Calls Tryz.prog 5 #[xA now rt qH nH cH qL nL cL, .slice qv nv cv, .slice r m d] w fun e w' => e = .returned (.bool (fewV nH nL L m)) ∧ Hid (Below w.heap.size w w') := by
  have X0 : Hid (Below w.heap.size w (w.alloc (.cells #[.int .i64 now, .int .i64 rt, .slice qH nH cH, .slice qL nL cL] 24))) := (Below.refl _ _).alloc (Nat.le_refl _) _
  go_enter Tryz.func5, Tryz.ntmps5
  go_wp2_with fail
  go_loopw [7] (fun y wr => ∃ (k : Nat), y = .int .i64 k ∧ k ≤ nv ∧ Hid ((L.take k).all vS = true ∧ Below w.heap.size w wr ∧ wr.heap[w.heap.size]? = some (.cells #[.int .i64 now, .int .i64 rt, .slice qH nH cH, .slice qL nL cL] 24))) (fun y _ => nv - (intOf y).toNat)
  case atStart => exact ⟨0, rfl, Nat.zero_le _, rfl, X0.out, new0⟩
  case round =>
    clear X0
    obtain ⟨k, rfl, hk, HT⟩ := hrel
    by_cases h0 : k = nv
    · subst h0
      have HE : Hid (L.all vS = true ∧ Below w.heap.size w wr) := by
        have h1 := HT.out
        rw [List.take_of_length_le (Nat.le_of_eq hn.out)] at h1
        exact ⟨h1.1, h1.2.1⟩
      have HX : Hid (fewV nH nL L m = (decide (nH ≤ 100) && (decide (nL ≤ 100) && (decide (k ≤ 30) && decide (m ≤ 30))))) := by show _ = _; unfold fewV; rw [HE.out.1, hn.out]; rfl
      have e2 := Lib.cell_of_heap HT.out.2.2 2
      have e3 := Lib.cell_of_heap HT.out.2.2 3
      clear HT
      by_cases a1 : nH ≤ 100
      · have a2 : (nH : Int) ≤ 100 := by omega
        have a3 : decide ((nH : Int) ≤ 100) = true := decide_eq_true a2
        by_cases z1 : nL ≤ 100
        · have z2 : (nL : Int) ≤ 100 := by omega
          have z3 : decide ((nL : Int) ≤ 100) = true := decide_eq_true z2
          by_cases b1 : k ≤ 30
          · have b2 : (k : Int) ≤ 30 := by omega
            have b3 : decide ((k : Int) ≤ 30) = true := decide_eq_true b2
            by_cases c1 : m ≤ 30
            · have c2 : (m : Int) ≤ 30 := by omega
              have c3 : decide ((m : Int) ≤ 30) = true := decide_eq_true c2
              go_wp2_with fail
              go_ret
              exact ⟨by rw [HX.out, decide_eq_true a1, decide_eq_true z1, decide_eq_true b1, decide_eq_true c1]; rfl, HE.out.2⟩
            · have c2 : ¬ (m : Int) ≤ 30 := by omega
              have c3 : decide ((m : Int) ≤ 30) = false := decide_eq_false c2
              go_wp2_with fail
              go_ret
              exact ⟨by rw [HX.out, decide_eq_true a1, decide_eq_true z1, decide_eq_true b1, decide_eq_false c1]; rfl, HE.out.2⟩
          · have b2 : ¬ (k : Int) ≤ 30 := by omega
            have b3 : decide ((k : Int) ≤ 30) = false := decide_eq_false b2
            go_wp2_with fail
            go_ret
            exact ⟨by rw [HX.out, decide_eq_true a1, decide_eq_true z1, decide_eq_false b1]; rfl, HE.out.2⟩
        · have z2 : ¬ (nL : Int) ≤ 100 := by omega
          have z3 : decide ((nL : Int) ≤ 100) = false := decide_eq_false z2
          go_wp2_with fail
          go_ret
          exact ⟨by rw [HX.out, decide_eq_true a1, decide_eq_false z1]; rfl, HE.out.2⟩
      · have a2 : ¬ (nH : Int) ≤ 100 := by omega
        have a3 : decide ((nH : Int) ≤ 100) = false := decide_eq_false a2
        go_wp2_with fail
        go_ret
        exact ⟨by rw [HX.out, decide_eq_false a1]; rfl, HE.out.2⟩
    · have hlt' : (k : Int) < (nv : Int) := by omega
      have hd : decide ((k : Int) < (nv : Int)) = true := decide_eq_true hlt'
      obtain ⟨v, hv⟩ : ∃ v, L[k]? = some v := ⟨L[k]'(by have := hn.out; omega), List.getElem?_eq_getElem _⟩
      obtain ⟨g, o, rfl, c0, c1, c2, c3⟩ := VA.at (hL.out.below HT.out.2.1) hv
      have HV : Hid (L[k]? = some v) := hv
      clear hv
      have HG : Hid (vS v = (decide (v.nT ≤ 20) && decide (v.nN ≤ 20))) := (rfl : _ = _)
      generalize v.nT = nT at *
      generalize v.nN = nN at *
      by_cases a1 : nT ≤ 20
      · have a2 : ¬ (20 : Int) < (nT : Int) := by omega
        have a3 : decide ((20 : Int) < (nT : Int)) = false := decide_eq_false a2
        by_cases b1 : nN ≤ 20
        · have b2 : ¬ (20 : Int) < (nN : Int) := by omega
          have b3 : decide ((20 : Int) < (nN : Int)) = false := decide_eq_false b2
          go_wp2_with fail
          exact ⟨⟨k + 1, by simp, by omega, all_take vS HV.out HT.out.1 (by rw [HG.out, decide_eq_true a1, decide_eq_true b1]; rfl), HT.out.2⟩, by simp only [intOf]; omega⟩
        · have b2 : (20 : Int) < (nN : Int) := by omega
          have b3 : decide ((20 : Int) < (nN : Int)) = true := decide_eq_true b2
          go_wp2_with fail
          go_ret
          exact ⟨by unfold fewV; rw [all_bad vS HV.out (by rw [HG.out, decide_eq_false b1, Bool.and_false]; decide)]; rfl, HT.out.2.1⟩
      · have a2 : (20 : Int) < (nT : Int) := by omega
        have a3 : decide ((20 : Int) < (nT : Int)) = true := decide_eq_true a2
        go_wp2_with fail
        go_ret
        exact ⟨by unfold fewV; rw [all_bad vS HV.out (by rw [HG.out, decide_eq_false a1, Bool.false_and]; decide)]; rfl, HT.out.2.1⟩
/-! ### the laws' arguments -/
structure Vi.pre (w : World) (v : Vi) : Prop where
  i : v.in6
  t : TA w v.qT v.T
  ct : v.qT = none → v.cT = 0
  lt : v.T.length = v.nT
  n : NA w v.qN v.N
  cn : v.qN = none → v.cN = 0
  ln : v.N.length = v.nN
  sn : ∀ s ∈ v.N, s.length ≤ 281474976710656
structure LwA (w : World) (now rt : Int) (qH : Option Addr) (nH cH : Nat) (T : List V) (qL : Option Addr) (nL cL : Nat) (U : List V) (qv : Option Addr) (nv : Nat) (L : List Vi) (r : Option Addr) (m d : Nat) (S : List Sl) : Prop where
  n : in64 now
  u : in64 rt
  t : TA w qH T
  ct : qH = none → cH = 0
  tn : T.length = nH
  t2 : TA w qL U
  ct2 : qL = none → cL = 0
  tn2 : U.length = nL
  v : VA w qv L
  o : ∀ v ∈ L, v.pre w
  vl : L.length = nv
  s : SlS w r m d S
  h63 : nv ≤ 9223372036854775807
theorem fewV_le {nH nL m : Nat} {L : List Vi} (h : fewV nH nL L m = true) : L.all vS = true ∧ nH ≤ 100 ∧ nL ≤ 100 ∧ L.length ≤ 30 ∧ m ≤ 30 := by
  unfold fewV at h
  simp only [Bool.and_eq_true, decide_eq_true_eq] at h
  exact h
section
variable {w w1 : World} {now rt : Int} {qH qL qv r : Option Addr} {nH cH nL cL nv m d : Nat} {T U : List V} {L : List Vi} {S : List Sl}
theorem LwA.ok (h : LwA w now rt qH nH cH T qL nL cL U qv nv L r m d S) (hf : fewV nH nL L m = true) : VOk w L := fun v hv => by
  obtain ⟨h1, h2, h3, h4, h5⟩ := fewV_le hf
  have h5 := h.o v hv
  have h6 := List.all_eq_true.1 h1 v hv
  unfold vS at h6
  simp only [Bool.and_eq_true, decide_eq_true_eq] at h6
  exact ⟨h5.i.1, h5.i.2, h5.t, h5.ct, h5.lt, h5.n, h5.cn, h5.ln, h5.sn, by omega, by omega⟩
theorem LwA.st (h : LwA w now rt qH nH cH T qL nL cL U qv nv L r m d S) (hf : fewV nH nL L m = true) : StG w qH nH cH qv nv r m d T L S := by
  obtain ⟨h1, h2, h3, h4, h5⟩ := fewV_le hf
  exact ⟨h.t, h.tn, h.s, h.v, h.ok hf, h.vl, by omega, by have := h.vl; omega, by omega, h.ct⟩
theorem LwA.few (h : LwA w now rt qH nH cH T qL nL cL U qv nv L r m d S) (cv : Nat) : ∀ W, Below w.heap.size w W → Calls Tryz.prog 5 #[xA now rt qH nH cH qL nL cL, .slice qv nv cv, .slice r m d] W fun e w' => e = .returned (.bool (fewV nH nL L m)) ∧ Hid (Below W.heap.size W w') := fun W b => few18 L now rt qH qL qv r nH cH nL cL nv cv m d W (h.v.below b) h.vl h.h63
end
theorem awk (w : World) : ∀ W, Below w.heap.size w W → Calls Tryz.prog 4 #[] W fun e w' => e = .returned (.bool true) ∧ Hid (Below w.heap.size w w') := fun W b => (awake18 W).mono fun _ _ q => ⟨q.1, below_from b q.2 b.size⟩
end Go.Proofs.YtjgibngnjlciaaaGreat

namespace Go.Proofs.YtjgibngnjlciaaaGreat
open Go.ChangeShapes Go.WideShapes Go.ChangeAt Go.RowKit

theorem cellsOf44 : Tryz.prog.cellsOf 42 = 4 := by kernel_rfl
theorem cellsOf22 : Tryz.prog.cellsOf 22 = 1 := by kernel_rfl
theorem cellsOf29 : Tryz.prog.cellsOf 29 = 1 := by kernel_rfl
theorem cellsOf24 : Tryz.prog.cellsOf 24 = 4 := by kernel_rfl
theorem in64_wf {n : Int} (h : (Lit.int .i64 n).wf = true) : in64 n := by
  simp [Lit.wf, IntKind.min, IntKind.max, IntKind.bits, IntKind.signed] at h
  omega
theorem okWide_str {P : Program} {w : World} {r : Reach} {b : Nat} {v : Value} {fs : Array Field} {t : TypeId} (ht : P.underlying t = some (.struct fs)) (h : Value.okWide P w r b t v) : ∃ cs, v = .agg cs ∧ cs.size = P.cellsOf t := by
  simp only [Value.okWide, ht] at h
  obtain ⟨cs, h1, h2, _⟩ := h
  exact ⟨cs, h1, h2⟩
section
variable {H : Type} {enc : TypeId × Value → H} {W : World} {base : Nat} {spare : Nat → Bool} {held : Bool}
set_option maxRecDepth 100000 in
theorem elem44 {fuel : Nat} {cs : List Value} {x : DataW H × List MemPlace} (h : DataW.trod enc Tryz.prog W base spare held fuel 42 cs = some x) : ∃ e : Vi, cs = viC e ∧ (Wt 42 x.1 → e.pre W) ∧ e.in6 := by
  obtain ⟨xs, m, _, hx, hl, hlen, hget⟩ := DataW.trod_struct Tryz.underlying42 h
  rw [cellsOf44] at hl
  match cs, hl with
  | [c0, c1, c3, c4], _ =>
  have g0 : DataW.trod enc Tryz.prog W base spare held m 2 (List.take (Tryz.prog.cellsOf 2) (List.drop 0 [c0, c1, c3, c4])) = xs[0]? := hget 0 _ rfl
  have g1 : DataW.trod enc Tryz.prog W base spare held m 2 (List.take (Tryz.prog.cellsOf 2) (List.drop 1 [c0, c1, c3, c4])) = xs[1]? := hget 1 _ rfl
  have g3 : DataW.trod enc Tryz.prog W base spare held m 22 (List.take (Tryz.prog.cellsOf 22) (List.drop 2 [c0, c1, c3, c4])) = xs[2]? := hget 2 _ rfl
  have g4 : DataW.trod enc Tryz.prog W base spare held m 29 (List.take (Tryz.prog.cellsOf 29) (List.drop 3 [c0, c1, c3, c4])) = xs[3]? := hget 3 _ rfl
  match xs, hlen with
  | [x0, x1, x3, x4], _ =>
    simp only [cellsOf2, cellsOf22, cellsOf29, List.drop_zero, List.drop_succ_cons, List.take_succ_cons, List.take_zero, List.getElem?_cons_zero, List.getElem?_cons_succ] at g0 g1 g3 g4
    obtain ⟨n0, e0, _, w0⟩ := DataW.trod_int Tryz.underlying2 g0
    obtain ⟨n1, e1, _, w1⟩ := DataW.trod_int Tryz.underlying2 g1
    simp only [List.cons.injEq, and_true] at e0 e1
    subst e0 e1
    obtain ⟨q3, k3, T, rfl, t2, t3, t4, t5, t6⟩ := open_list (x := x3) Tryz.underlying22 vC vC_len cellsOf41 (by decide) (fun _ _ => True) (fun n cs x h => elemV h) g3
    obtain ⟨q4, k4, N, rfl, s2, s3, s4, s5, s6⟩ := open_list (x := x4) Tryz.underlying29 sC sC_len cellsOf9 (by decide) (fun e d => Wt 9 d → e.length ≤ 281474976710656) (fun n cs x h => elem9 h) g4
    refine ⟨⟨n0, n1, q3, T.length, k3, q4, N.length, k4, T, N⟩, rfl, fun hw => ?_, in64_wf w0, in64_wf w1⟩
    rw [hx] at hw
    have hw4 : Wt 29 x4.1 := Wt.field (j := 3) hw Tryz.underlying42 rfl rfl
    refine ⟨⟨in64_wf w0, in64_wf w1⟩, lies_ga vC_len (by decide) t2, t6, rfl, lies_ga sC_len (by decide) s2, s6, rfl, fun s hs => ?_⟩
    obtain ⟨d, hd, hq⟩ := s4 s hs
    exact hd (hq hw4)
set_option maxRecDepth 100000 in
theorem open_runs {v : Value} {x : DataW H} {p : List MemPlace} {r : Reach} {b0 : Nat} (hv : Value.okWide Tryz.prog W r b0 25 v) (h : DataW.Trod enc Tryz.prog W base spare held 25 v x p) :
    ∃ (q : Option Addr) (c : Nat) (L : List Vi), v = .slice q L.length c ∧ VA W q L ∧ (Wt 25 x → ∀ e ∈ L, e.pre W) ∧ VIn L ∧ L.length ≤ maxLen ∧ (q = none → c = 0) := by
  obtain ⟨a0, len, cap, rfl⟩ := okWide_slice Tryz.underlying25 hv
  obtain ⟨fuel, hf⟩ := h
  obtain ⟨q, c, L, h1, h2, h3, h4, h5, h6⟩ := open_list (x := (x, p)) Tryz.underlying25 viC viC_len cellsOf44 (by decide) (fun e d => (Wt 42 d → e.pre W) ∧ e.in6) (fun n cs x h => elem44 h) (show DataW.trod enc Tryz.prog W base spare held fuel 25 [.slice a0 len cap] = some (x, p) from hf)
  refine ⟨q, c, L, h1, lies_ga viC_len (by decide) h2, fun hw e he => ?_, fun e he => ?_, h5, h6⟩
  · obtain ⟨d, hd, hq⟩ := h4 e he
    exact hd.1 (hq hw)
  · obtain ⟨d, hd, hq⟩ := h4 e he
    exact hd.2
set_option maxRecDepth 100000 in
theorem open_asked {v : Value} {x : DataW H} {p : List MemPlace} {r : Reach} {b0 : Nat} (hv : Value.okWide Tryz.prog W r b0 24 v) (h : DataW.Trod enc Tryz.prog W base spare held 24 v x p) :
    ∃ (now rt : Int) (q : Option Addr) (c : Nat) (T : List V) (q2 : Option Addr) (c2 : Nat) (U : List V), v = xA now rt q T.length c q2 U.length c2 ∧ in64 now ∧ in64 rt ∧ TA W q T ∧ (q = none → c = 0) ∧ TA W q2 U ∧ (q2 = none → c2 = 0) := by
  obtain ⟨cs, rfl, hsz⟩ := okWide_str Tryz.underlying24 hv
  obtain ⟨l⟩ := cs
  have hl : l.length = 4 := hsz.trans cellsOf24
  match l, hl with
  | [c0, c1, c3, c4], _ =>
    obtain ⟨fuel, hf⟩ := h
    obtain ⟨xs, m, _, hx, hl, hlen, hget⟩ := DataW.trod_struct Tryz.underlying24 hf
    have g0 : DataW.trod enc Tryz.prog W base spare held m 2 (List.take (Tryz.prog.cellsOf 2) (List.drop 0 [c0, c1, c3, c4])) = xs[0]? := hget 0 _ rfl
    have g1 : DataW.trod enc Tryz.prog W base spare held m 2 (List.take (Tryz.prog.cellsOf 2) (List.drop 1 [c0, c1, c3, c4])) = xs[1]? := hget 1 _ rfl
    have g3 : DataW.trod enc Tryz.prog W base spare held m 22 (List.take (Tryz.prog.cellsOf 22) (List.drop 2 [c0, c1, c3, c4])) = xs[2]? := hget 2 _ rfl
    have g4 : DataW.trod enc Tryz.prog W base spare held m 22 (List.take (Tryz.prog.cellsOf 22) (List.drop 3 [c0, c1, c3, c4])) = xs[3]? := hget 3 _ rfl
    match xs, hlen with
    | [x0, x1, x3, x4], _ =>
      simp only [cellsOf2, cellsOf22, List.drop_zero, List.drop_succ_cons, List.take_succ_cons, List.take_zero, List.getElem?_cons_zero, List.getElem?_cons_succ] at g0 g1 g3 g4
      obtain ⟨n0, e0, _, w0⟩ := DataW.trod_int Tryz.underlying2 g0
      obtain ⟨n1, e1, _, w1⟩ := DataW.trod_int Tryz.underlying2 g1
      simp only [List.cons.injEq, and_true] at e0 e1
      subst e0 e1
      obtain ⟨q3, k3, T, rfl, t2, t3, t4, t5, t6⟩ := open_list (x := x3) Tryz.underlying22 vC vC_len cellsOf41 (by decide) (fun _ _ => True) (fun n cs x h => elemV h) g3
      obtain ⟨q4, k4, U, rfl, s2, s3, s4, s5, s6⟩ := open_list (x := x4) Tryz.underlying22 vC vC_len cellsOf41 (by decide) (fun _ _ => True) (fun n cs x h => elemV h) g4
      exact ⟨n0, n1, q3, k3, T, q4, k4, U, rfl, in64_wf w0, in64_wf w1, lies_ga vC_len (by decide) t2, t6, lies_ga vC_len (by decide) s2, s6⟩
end
end Go.Proofs.YtjgibngnjlciaaaGreat
