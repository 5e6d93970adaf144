/-
  The law EvictChooses.
-/
import Derived.Test.YtcfnonfghlgphaaRa2
import Derived.Test.YtcfnonfghlgphaaRa5
namespace Go.Proofs.Ytcfnonfghlgphaa
open Go.RowKit Go.Maps

theorem chR_len (T : List V) (p : Int) (L : List Vi) (S : List Sl) : (chR T p L S).2.1.length ≤ L.length ∧ (chR T p L S).2.2.length ≤ T.length := by
  by_cases h : (chR T p L S).1 = 0
  · obtain ⟨_, _, _, k, _, e⟩ := chR_ok h
    rw [e]
    constructor
    · show ((blw p (srtV L)).take k).length ≤ _
      rw [List.length_take]
      have h2 := blw_le p (srtV L)
      have h3 := (srtV_perm L).length_eq
      omega
    · exact fitR_le T _
  · rw [chR_bad h]
    exact ⟨Nat.zero_le _, Nat.zero_le _⟩
/-- what Choose answers, in whole -/
def ChW (w : World) (en : Nat) (J : List Int) (N : List (List UInt8)) (e : Ending) (w' : World) : Prop :=
  ∃ pj cj pn cn, e = .returned (.tuple #[.slice pj J.length cj, .slice pn N.length cn, .int .i64 (en : Int)]) ∧ Hid (GA 1 jC w' pj J ∧ NA w' pn N ∧ Below w.heap.size w w')
theorem ChoP.all {w w' : World} {T : List V} {p : Int} {L : List Vi} {S : List Sl} {e : Ending} (h : ChoP w T p L S e w') : ChW w (chR T p L S).1 ((chR T p L S).2.1.map Vi.j) (chR T p L S).2.2 e w' := by
  obtain ⟨pj, kj, cj, pn, kn, cn, rfl, h1, h2, h3⟩ := h
  subst h1 h2
  exact ⟨pj, cj, pn, cn, by rw [List.length_map], h3.out.1.ga jC_len, h3.out.2⟩
set_option maxHeartbeats 4000000 in
set_option maxRecDepth 100000 in
theorem chooses_law (q qv r : Option Addr) (p : Int) (n c nv cv m d : Nat) (T : List V) (L : List Vi) (S : List Sl) (w : World) (hA : LwA w q n c T qv nv L r m d S) :
    Calls Try.prog 4 #[.agg #[.slice q n c, .int .i64 p], .slice qv nv cv, .slice r m d] w fun e w' => e = .returned (.bool true) ∧ Below w.heap.size w w' := by
  have H9 : Hid (∀ W, Calls Try.prog 9 #[] W fun e w' => e = .returned (.bool true) ∧ Below W.heap.size W w') := awake17
  have H14 : Hid (∀ W, Below w.heap.size w W → Calls Try.prog 14 #[.slice q n c, .slice qv nv cv, .slice r m d] W fun e w' => e = .returned (.bool (fewV n L m)) ∧ Hid (Below W.heap.size W w')) := hA.few cv
  have HA : Hid (LwA w q n c T qv nv L r m d S) := hA
  clear hA
  have B0 : Hid (Below w.heap.size w (w.alloc (.cells #[.slice q n c, .int .i64 p] 35))) := (Below.refl _ w).alloc (Nat.le_refl _) _
  have N0 := new0 (w := w) (o := .cells #[.slice q n c, .int .i64 p] 35)
  cases hf : fewV n L m with
  | false =>
    rw [hf] at H14
    clear hf
    go_enter Try.func4, Try.ntmps4
    go_upto_region 1 with fail
    generalize w.alloc (.cells #[.slice q n c, .int .i64 p] 35) = W at *
    have c0 := Lib.cell_of_heap N0 0
    have c1 := Lib.cell_of_heap N0 1
    have hl := (Array.getElem?_eq_some_iff.1 N0).1
    go_quiet (fail)
    have BQ : Hid (∀ i, Below w.heap.size w (W.drewN i)) := fun i => below_drewN B0.out i
    generalize hw0 : W.drewN nq = W0
    have B1 : Hid (Below w.heap.size w W0) := hw0 ▸ BQ.out nq
    clear hw0 BQ B0 N0 c0 c1 hl
    go_upto_region 3 with (first | (go_at_call 9; refine (H9.out _).mono ?_; rintro e w1 ⟨rfl, b1⟩; have B2 : Hid (Below w.heap.size w w1) := below_from B1.out b1 B1.out.size) | (go_at_call 14; refine (H14.out _ B2.out).mono ?_; rintro e w2 ⟨rfl, b2⟩))
    have B3 : Hid (Below w.heap.size w w2) := below_from B2.out b2.out B2.out.size
    clear b1 b2
    go_wp2_with (go_at_call 9; refine (H9.out _).mono ?_; rintro e w3 ⟨rfl, b3⟩)
    go_ret
    exact ⟨rfl, below_from B3.out b3 B3.out.size⟩
  | true =>
    have HC : Hid (ChA w q n c T qv nv L r m d S) := HA.out.ch hf
    have HX : Hid (nv ≤ 60 ∧ m ≤ 40 ∧ n ≤ 100) := by
      obtain ⟨h1, h2, h3, h4⟩ := fewV_le hf
      have := HC.out.vl
      exact ⟨by omega, h4, h2⟩
    have H15 : Hid (∀ W, Below w.heap.size w W → Calls Try.prog 15 #[.slice q n c, .int .i64 p, .slice qv nv cv, .slice r m d] W (ChW W (chR T p L S).1 ((chR T p L S).2.1.map Vi.j) (chR T p L S).2.2)) := fun W b => (choose_any p T L S q qv r n c nv cv m d W (HC.out.below b)).mono fun e w' h => h.all
    have H12 : Hid (∀ W, Below w.heap.size w W → Calls Try.prog 12 #[.slice qv nv cv] W fun e w' => ∃ p c', e = .returned (.slice p nv c') ∧ Hid (VA w' p L ∧ Below W.heap.size W w')) := fun W b => by
      refine (vplain_any W qv nv cv L HC.out.vl (by have := HX.out.1; omega) (HC.out.v.below b)).mono ?_
      rintro e w' ⟨p, c', rfl, h⟩
      exact ⟨p, c', rfl, h.out.1.ga viC_len, h.out.2⟩
    have H17 : Hid (∀ W, Below w.heap.size w W → Calls Try.prog 17 #[.slice r m d] W fun e w' => ∃ p c', e = .returned (.slice p m c') ∧ Hid (SlS w' p m c' S ∧ Below W.heap.size W w')) := fun W b => by
      refine (plain_any W r m d S HC.out.s.m (by have := HX.out.2.1; omega) (HC.out.s.s.below b)).mono ?_
      rintro e w' ⟨p, c', rfl, h⟩
      exact ⟨p, c', rfl, ⟨h.out.1.ga slC_len, HC.out.s.h, fun e => by subst e; exact h.out.1.nilc, HC.out.s.m⟩, h.out.2⟩
    have H16 : Hid (∀ W p3 c3 p4 c4, Below w.heap.size w W → VA W p3 L → SlS W p4 m c4 S → Calls Try.prog 16 #[.slice q n c, .int .i64 p, .slice p3 nv c3, .slice p4 m c4] W (ChW W (chR T p L S).1 ((chR T p L S).2.1.map Vi.j) (chR T p L S).2.2)) := fun W p3 c3 p4 c4 b hv hs => by
      have h1 := HC.out.below b
      refine (rchoose_any p T L S q p3 p4 n c nv c3 m c4 W ⟨h1.t, h1.ct, h1.tn, hv, h1.o, h1.vl, hs, h1.n1, h1.l1, h1.m1⟩ (by have := HX.out.1; omega)).mono fun e w' h => h.all
    have HJ : Hid (((chR T p L S).2.1.map Vi.j).length ≤ 1000000 ∧ (chR T p L S).2.2.length ≤ 1000000) := by
      obtain ⟨h1, h2⟩ := chR_len T p L S
      rw [List.length_map]
      have := HC.out.vl
      have := HC.out.tn
      have := HX.out
      exact ⟨by omega, by omega⟩
    rw [hf] at H14
    clear hf HA HC HX
    generalize (chR T p L S).2.1.map Vi.j = J at *
    generalize (chR T p L S).2.2 = N at *
    generalize (chR T p L S).1 = en at *
    go_enter Try.func4, Try.ntmps4
    go_upto_region 1 with fail
    generalize w.alloc (.cells #[.slice q n c, .int .i64 p] 35) = W at *
    have c0 := Lib.cell_of_heap N0 0
    have c1 := Lib.cell_of_heap N0 1
    have hl := (Array.getElem?_eq_some_iff.1 N0).1
    go_quiet (fail)
    have BQ : Hid (∀ i, Below w.heap.size w (W.drewN i)) := fun i => below_drewN B0.out i
    generalize hw0 : W.drewN nq = W0
    have B1 : Hid (Below w.heap.size w W0) := hw0 ▸ BQ.out nq
    clear hw0 BQ B0 N0 c0 c1 hl
    go_upto_region 4 with (first | (go_at_call 9; refine (H9.out _).mono ?_; rintro e w1 ⟨rfl, b1⟩; have B2 : Hid (Below w.heap.size w w1) := below_from B1.out b1 B1.out.size) | (go_at_call 14; refine (H14.out _ B2.out).mono ?_; rintro e w2 ⟨rfl, b2⟩))
    have B3 : Hid (Below w.heap.size w w2) := below_from B2.out b2.out B2.out.size
    clear b1 b2 H9 H14 B1 B2
    go_upto_region 5 with (go_at_call 15; refine (H15.out _ B3.out).mono ?_; rintro e w3 ⟨pj, cj, pn, cn, rfl, h3⟩)
    have B4 : Hid (Below w.heap.size w w3) := below_from B3.out h3.out.2.2 B3.out.size
    go_upto_region 6 with (first | (go_at_call 12; refine (H12.out _ B4.out).mono ?_; rintro e w4 ⟨p4, c4, rfl, h4⟩; have B5 : Hid (Below w.heap.size w w4) := below_from B4.out h4.out.2 B4.out.size) | (go_at_call 17; refine (H17.out _ B5.out).mono ?_; rintro e w5 ⟨p5, c5, rfl, h5⟩; have B6 : Hid (Below w.heap.size w w5) := below_from B5.out h5.out.2 B5.out.size) | (go_at_call 16; refine (H16.out _ _ _ _ _ B6.out (h4.out.1.below h5.out.2) h5.out.1).mono ?_; rintro e w6 ⟨pj2, cj2, pn2, cn2, rfl, h6⟩))
    have b36 : Below w3.heap.size w3 w6 := below_from h4.out.2 (below_from h5.out.2 h6.out.2.2 h5.out.2.size) h4.out.2.size
    have B7 : Hid (Below w.heap.size w w6) := below_from B4.out b36 B4.out.size
    have H13 : Hid (Calls Try.prog 13 #[.slice pj J.length cj, .slice pj2 J.length cj2] w6 fun e w' => e = .returned (.bool true) ∧ Hid (Below w6.heap.size w6 w')) := sames_any w6 J.length cj cj2 pj pj2 J (h3.out.1.below b36) h6.out.1 (rfl : _ = _) HJ.out.1
    have H18 : Hid (∀ W, Below w6.heap.size w6 W → Calls Try.prog 18 #[.slice pn N.length cn, .slice pn2 N.length cn2] W fun e w' => e = .returned (.bool true) ∧ Hid (Below W.heap.size W w')) := fun W b => same_any W N.length cn cn2 pn pn2 N ((h3.out.2.1.below b36).below b) (h6.out.2.1.below b) (rfl : _ = _) HJ.out.2
    clear h3 h4 h5 h6 b36 H12 H15 H16 H17
    go_wp2_with (first | (go_at_call 13; refine H13.out.mono ?_; rintro e w7 ⟨rfl, b7⟩) | (go_at_call 18; refine (H18.out _ b7.out).mono ?_; rintro e w8 ⟨rfl, b8⟩))
    go_ret
    exact ⟨rfl, below_from (below_from B7.out b7.out B7.out.size) b8.out (Nat.le_trans B7.out.size b7.out.size)⟩
end Go.Proofs.Ytcfnonfghlgphaa
