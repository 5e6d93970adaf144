/-
  The law EvictMore.
-/
import Derived.Test.YtcfnonfghlgphaaGn
namespace Go.Proofs.Ytcfnonfghlgphaa
open Go.RowKit Go.Maps

set_option maxHeartbeats 4000000 in
set_option maxRecDepth 100000 in
theorem more_law (q qv r : Option Addr) (p : Int) (n c nv cv m d : Nat) (T : List V) (L : List Vi) (S : List Sl) (w : World) (hA : LwA w q n c T qv nv L r m d S) (hp : in64 p) :
    Calls Try.prog 8 #[.agg #[.slice q n c, .int .i64 p], .slice qv nv cv, .slice r m d] w fun e w' => e = .returned (.bool true) ∧ Below w.heap.size w w' := by
  have H9 : Hid (∀ W, Calls Try.prog 9 #[] W fun e w' => e = .returned (.bool true) ∧ Below W.heap.size W w') := awake17
  have H14 : Hid (∀ W, Below w.heap.size w W → Calls Try.prog 14 #[.slice q n c, .slice qv nv cv, .slice r m d] W fun e w' => e = .returned (.bool (fewV n L m)) ∧ Hid (Below W.heap.size W w')) := hA.few cv
  have HA : Hid (LwA w q n c T qv nv L r m d S) := hA
  clear hA
  have B0 : Hid (Below w.heap.size w (w.alloc (.cells #[.slice q n c, .int .i64 p] 35))) := (Below.refl _ w).alloc (Nat.le_refl _) _
  have N0 := new0 (w := w) (o := .cells #[.slice q n c, .int .i64 p] 35)
  cases hf : fewV n L m with
  | false =>
    rw [hf] at H14
    clear hf
    go_enter Try.func8, Try.ntmps8
    go_upto_region 1 with fail
    generalize w.alloc (.cells #[.slice q n c, .int .i64 p] 35) = W at *
    have c0 := Lib.cell_of_heap N0 0
    have c1 := Lib.cell_of_heap N0 1
    go_upto_region 2 with (first | (go_at_call 9; refine (H9.out _).mono ?_; rintro e w1 ⟨rfl, b1⟩; have B1 : Hid (Below w.heap.size w w1) := below_from B0.out b1 B0.out.size; have m0 := cell_below c0 b1; have m1 := cell_below c1 b1) | (go_at_call 14; refine (H14.out _ B1.out).mono ?_; rintro e w2 ⟨rfl, b2⟩))
    have B2 : Hid (Below w.heap.size w w2) := below_from B1.out b2.out B1.out.size
    clear c0 c1 m0 m1 N0 b1 b2
    go_wp2_with (go_at_call 9; refine (H9.out _).mono ?_; rintro e w3 ⟨rfl, b3⟩)
    go_ret
    exact ⟨rfl, below_from B2.out b3 B2.out.size⟩
  | true =>
    have HC := HA.out.ch hf
    have H15 : Hid (∀ W, Below w.heap.size w W → ∀ p, Calls Try.prog 15 #[.slice q n c, .int .i64 p, .slice qv nv cv, .slice r m d] W (ChoP W T p L S)) := fun W b p => choose_any p T L S q qv r n c nv cv m d W (HC.below b)
    have HL : Hid (L.length ≤ 1000000 ∧ n ≤ 1000000) := ⟨by have := HC.l1; have := HC.vl; omega, HC.n1⟩
    rw [hf] at H14
    clear hf HC
    by_cases hb : 1000 < p
    · go_enter Try.func8, Try.ntmps8
      go_upto_region 1 with fail
      generalize w.alloc (.cells #[.slice q n c, .int .i64 p] 35) = W at *
      have c0 := Lib.cell_of_heap N0 0
      have c1 := Lib.cell_of_heap N0 1
      go_upto_region 2 with (first | (go_at_call 9; refine (H9.out _).mono ?_; rintro e w1 ⟨rfl, b1⟩; have B1 : Hid (Below w.heap.size w w1) := below_from B0.out b1 B0.out.size; have m0 := cell_below c0 b1; have m1 := cell_below c1 b1) | (go_at_call 14; refine (H14.out _ B1.out).mono ?_; rintro e w2 ⟨rfl, b2⟩; have n1 := cell_below m1 b2.out))
      have B2 : Hid (Below w.heap.size w w2) := below_from B1.out b2.out B1.out.size
      clear c0 c1 m0 m1 N0 b1 b2 n1
      go_wp2_with (go_at_call 9; refine (H9.out _).mono ?_; rintro e w3 ⟨rfl, b3⟩)
      go_ret
      exact ⟨rfl, below_from B2.out b3 B2.out.size⟩
    · have hp0 : p < 9223372036854775807 := by omega
      have hp1 : -9223372036854775808 ≤ p := hp.1
      have hp2 : wrap64 (p + 1) = p + 1 := by unfold wrap64; omega
      go_enter Try.func8, Try.ntmps8
      go_upto_region 1 with fail
      generalize w.alloc (.cells #[.slice q n c, .int .i64 p] 35) = W at *
      have c0 := Lib.cell_of_heap N0 0
      have c1 := Lib.cell_of_heap N0 1
      go_upto_region 3 with (first | (go_at_call 9; refine (H9.out _).mono ?_; rintro e w1 ⟨rfl, b1⟩; have B1 : Hid (Below w.heap.size w w1) := below_from B0.out b1 B0.out.size; have m0 := cell_below c0 b1; have m1 := cell_below c1 b1) | (go_at_call 14; refine (H14.out _ B1.out).mono ?_; rintro e w2 ⟨rfl, b2⟩; have n0 := cell_below m0 b2.out; have n1 := cell_below m1 b2.out))
      have B2 : Hid (Below w.heap.size w w2) := below_from B1.out b2.out B1.out.size
      clear c0 c1 m0 m1 N0 b1 b2 H9 H14
      by_cases he : (chR T p L S).1 = 0
      · obtain ⟨G, N, hg⟩ : ∃ G N, chR T p L S = (0, G, N) := by
          obtain ⟨_, _, _, k, _, h⟩ := chR_ok he
          exact ⟨_, _, h⟩
        have hm : chR T (p + 1) L S = (0, G, N) := (ch_more (by omega) he).trans hg
        have HG : Hid (G.length ≤ 1000000 ∧ N.length ≤ 1000000) := by
          obtain ⟨h1, _, _, k, h5, h⟩ := chR_ok he
          rw [h] at hg
          cases hg
          constructor
          · rw [List.length_take]
            have h2 := blw_le p (srtV L)
            have h3 := (srtV_perm L).length_eq
            have := HL.out.1
            omega
          · have h2 := fitR_le T (slA ((blw p (srtV L)).take k) S)
            have := HL.out.2
            have := HA.out.tn
            omega
        have H15a : Hid (Calls Try.prog 15 #[.slice q n c, .int .i64 p, .slice qv nv cv, .slice r m d] w2 (ChG w2 G N)) := (H15.out w2 B2.out p).mono fun e w' h => h.good hg
        have H15b : Hid (∀ W, Below w.heap.size w W → Calls Try.prog 15 #[.slice q n c, .int .i64 (p + 1), .slice qv nv cv, .slice r m d] W (ChG W G N)) := fun W b => (H15.out W b (p + 1)).mono fun e w' h => h.good hm
        clear he hg hm H15 HL
        go_upto_region 6 with (go_at_call 15; refine H15a.out.mono ?_; rintro e w3 ⟨pj, cj, pn, cn, rfl, h3⟩; have o0 := cell_below n0 h3.out.2.2; have o1 := cell_below n1 h3.out.2.2)
        have B3 : Hid (Below w.heap.size w w3) := below_from B2.out h3.out.2.2 B2.out.size
        clear n0 n1
        go_upto_region 7 with (go_at_call 15; refine (H15b.out _ B3.out).mono ?_; rintro e w4 ⟨pj2, cj2, pn2, cn2, rfl, h4⟩)
        have B4 : Hid (Below w.heap.size w w4) := below_from B3.out h4.out.2.2 B3.out.size
        have H13 : Hid (Calls Try.prog 13 #[.slice pj G.length cj, .slice pj2 G.length cj2] w4 fun e w' => e = .returned (.bool true) ∧ Hid (Below w4.heap.size w4 w')) := sames_any w4 G.length cj cj2 pj pj2 (G.map Vi.j) (h3.out.1.below h4.out.2.2) h4.out.1 (by show _ = _; rw [List.length_map]) HG.out.1
        have H18 : Hid (∀ W, Below w4.heap.size w4 W → Calls Try.prog 18 #[.slice pn N.length cn, .slice pn2 N.length cn2] W fun e w' => e = .returned (.bool true) ∧ Hid (Below W.heap.size W w')) := fun W b => same_any W N.length cn cn2 pn pn2 N ((h3.out.2.1.below h4.out.2.2).below b) (h4.out.2.1.below b) (rfl : _ = _) HG.out.2
        clear o0 o1 h3 h4 H15a H15b
        go_wp2_with (first | (go_at_call 13; refine H13.out.mono ?_; rintro e w5 ⟨rfl, b5⟩) | (go_at_call 18; refine (H18.out _ b5.out).mono ?_; rintro e w6 ⟨rfl, b6⟩))
        go_ret
        exact ⟨rfl, below_from (below_from B4.out b5.out B4.out.size) b6.out (Nat.le_trans B4.out.size b5.out.size)⟩
      · obtain ⟨en, hen⟩ : ∃ en, (chR T p L S).1 = en := ⟨_, rfl⟩
        have hc := chR_bad he
        rw [hen] at hc he
        have e1 : ¬ (en : Int) = 0 := by omega
        have e2 : ((en : Int) == 0) = false := by rw [beq_eq_false_iff_ne]; exact e1
        have H15a : Hid (Calls Try.prog 15 #[.slice q n c, .int .i64 p, .slice qv nv cv, .slice r m d] w2 fun e w' => ∃ pj cj pn cn, e = .returned (.tuple #[.slice pj 0 cj, .slice pn 0 cn, .int .i64 (en : Int)]) ∧ Hid (Below w2.heap.size w2 w')) := (H15.out w2 B2.out p).mono fun e w' h => h.no hc
        clear hen hc H15 HL he
        go_wp2_with (go_at_call 15; refine H15a.out.mono ?_; rintro e w3 ⟨pj, cj, pn, cn, rfl, b3⟩)
        go_ret
        exact ⟨rfl, below_from B2.out b3.out B2.out.size⟩
end Go.Proofs.Ytcfnonfghlgphaa
