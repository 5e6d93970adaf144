/-
  The law EvictLeast.
-/
import Derived.Test.YtcfnonfghlgphaaGn
namespace Go.Proofs.Ytcfnonfghlgphaa
open Go.RowKit Go.Maps

/-- while the victims are looked through for one: whether he has been met -/
def metV (L : List Vi) (u : Vi) (k : Nat) : Prop := ∃ i, i < k ∧ L[i]? = some u
theorem met_all {L : List Vi} {u : Vi} (h : u ∈ L) : metV L u L.length := by
  obtain ⟨i, hi⟩ := List.mem_iff_getElem?.1 h
  exact ⟨i, (List.getElem?_eq_some_iff.1 hi).1, hi⟩
theorem uj_at {L : List Vi} (hu : Uj L) {a b : Vi} {i k : Nat} (ha : L[i]? = some a) (hb : L[k]? = some b) (e : a.j = b.j) : i = k ∧ a = b := by
  obtain ⟨l1, e1⟩ := List.getElem?_eq_some_iff.1 ha
  obtain ⟨l2, e2⟩ := List.getElem?_eq_some_iff.1 hb
  rcases Nat.lt_trichotomy i k with q | q | q
  · have := List.pairwise_iff_getElem.1 hu i k l1 l2 q
    rw [e1, e2] at this
    exact absurd e this
  · subst q; exact ⟨rfl, Option.some.inj (ha.symm.trans hb)⟩
  · have := List.pairwise_iff_getElem.1 hu k i l2 l1 q
    rw [e1, e2] at this
    exact absurd e.symm this
/-- what is known of those who went -/
structure Gne (T : List V) (p : Int) (L : List Vi) (S : List Sl) (G : List Vi) (N : List (List UInt8)) : Prop where
  u : Uj L
  m : ∀ v ∈ G, v ∈ L
  p : ∀ v ∈ G, v.p < p
  f : ∀ i, i < G.length → (fitR T (slA (G.take i) S)).1 = 6
  r : fitR T (slA G S) = (0, N)
  s : ∀ i v, G[i]? = some v → movR addR v.T v.N (slA (G.take i) S) = (0, slA (G.take (i + 1)) S)
theorem gone_of {T : List V} {p : Int} {L : List Vi} {S : List Sl} {G : List Vi} {N : List (List UInt8)} (h : chR T p L S = (0, G, N)) : Gne T p L S G N := by
  have he : (chR T p L S).1 = 0 := by rw [h]
  obtain ⟨h1, h2, h3, k, h4, h5⟩ := chR_ok he
  rw [h5] at h
  cases h
  obtain ⟨g1, g2, g3⟩ := some_goN h4
  have hc := fitR_chk h1
  have hS := (chk_ok hc).2.1
  have hG := all_give L S hS h3
  have ht : ∀ i, i ≤ k → ((blw p (srtV L)).take k).take i = (blw p (srtV L)).take i := fun i hi => by rw [List.take_take, Nat.min_eq_left hi]
  have hl : ((blw p (srtV L)).take k).length = k := by rw [List.length_take]; omega
  refine ⟨h2, fun v hv => ?_, fun v hv => ?_, fun i hi => ?_, ?_, fun i v hv => ?_⟩
  · exact (srtV_perm L).mem_iff.1 (List.mem_filter.1 (List.mem_of_mem_take hv)).1
  · exact of_decide_eq_true (List.mem_filter.1 (List.mem_of_mem_take hv)).2
  · rw [hl] at hi
    rw [ht i (by omega)]
    exact (go_fit hc hG i).resolve_left (g3 i hi)
  · rw [← g2]
  · have hi := (List.getElem?_eq_some_iff.1 hv).1
    rw [hl] at hi
    rw [ht i (by omega), ht (i + 1) (by omega)]
    refine go_step hS hG ?_
    rw [List.getElem?_take] at hv
    rw [if_pos hi] at hv
    exact hv
set_option maxHeartbeats 4000000 in
set_option maxRecDepth 100000 in
theorem least_law (q qv r : Option Addr) (p : Int) (n c nv cv m d : Nat) (T : List V) (L : List Vi) (S : List Sl) (w : World) (hA : LwA w q n c T qv nv L r m d S) :
    Calls Try.prog 5 #[.agg #[.slice q n c, .int .i64 p], .slice qv nv cv, .slice r m d] w fun e w' => e = .returned (.bool true) ∧ Below w.heap.size w w' := by
  have H9 : Hid (∀ W, Calls Try.prog 9 #[] W fun e w' => e = .returned (.bool true) ∧ Below W.heap.size W w') := awake17
  have H14 : Hid (∀ W, Below w.heap.size w W → Calls Try.prog 14 #[.slice q n c, .slice qv nv cv, .slice r m d] W fun e w' => e = .returned (.bool (fewV n L m)) ∧ Hid (Below W.heap.size W w')) := hA.few cv
  have HA : Hid (LwA w q n c T qv nv L r m d S) := hA
  clear hA
  have B0 : Hid (Below w.heap.size w (w.alloc (.cells #[.slice q n c, .int .i64 p] 35))) := (Below.refl _ w).alloc (Nat.le_refl _) _
  have N0 := new0 (w := w) (o := .cells #[.slice q n c, .int .i64 p] 35)
  cases hf : fewV n L m with
  | false =>
    rw [hf] at H14
    clear hf
    go_enter Try.func5, Try.ntmps5
    go_upto_region 1 with fail
    generalize w.alloc (.cells #[.slice q n c, .int .i64 p] 35) = W at *
    have c0 := Lib.cell_of_heap N0 0
    have c1 := Lib.cell_of_heap N0 1
    have hl := (Array.getElem?_eq_some_iff.1 N0).1
    go_quiet (fail)
    have BQ : Hid (∀ i, Below w.heap.size w (W.drewN i)) := fun i => below_drewN B0.out i
    generalize hw0 : W.drewN nq = W0
    have B1 : Hid (Below w.heap.size w W0) := hw0 ▸ BQ.out nq
    clear hw0 BQ B0 N0 c0 c1 hl
    go_upto_region 3 with (first | (go_at_call 9; refine (H9.out _).mono ?_; rintro e w1 ⟨rfl, b1⟩; have B2 : Hid (Below w.heap.size w w1) := below_from B1.out b1 B1.out.size) | (go_at_call 14; refine (H14.out _ B2.out).mono ?_; rintro e w2 ⟨rfl, b2⟩))
    have B3 : Hid (Below w.heap.size w w2) := below_from B2.out b2.out B2.out.size
    clear b1 b2
    go_wp2_with (go_at_call 9; refine (H9.out _).mono ?_; rintro e w3 ⟨rfl, b3⟩)
    go_ret
    exact ⟨rfl, below_from B3.out b3 B3.out.size⟩
  | true =>
    have HC : Hid (ChA w q n c T qv nv L r m d S) := HA.out.ch hf
    have hnv : nv ≤ 1000000 := HC.out.l1
    have H15 : Hid (∀ W, Below w.heap.size w W → Calls Try.prog 15 #[.slice q n c, .int .i64 p, .slice qv nv cv, .slice r m d] W (ChoP W T p L S)) := fun W b => choose_any p T L S q qv r n c nv cv m d W (HC.out.below b)
    rw [hf] at H14
    clear hf HA
    go_enter Try.func5, Try.ntmps5
    go_upto_region 1 with fail
    generalize w.alloc (.cells #[.slice q n c, .int .i64 p] 35) = W at *
    have c0 := Lib.cell_of_heap N0 0
    have c1 := Lib.cell_of_heap N0 1
    have hl := (Array.getElem?_eq_some_iff.1 N0).1
    go_quiet (fail)
    have BQ : Hid (∀ i, Below w.heap.size w (W.drewN i)) := fun i => below_drewN B0.out i
    generalize hw0 : W.drewN nq = W0
    have B1 : Hid (Below w.heap.size w W0) := hw0 ▸ BQ.out nq
    clear hw0 BQ B0 N0 c0 c1 hl
    go_upto_region 4 with (first | (go_at_call 9; refine (H9.out _).mono ?_; rintro e w1 ⟨rfl, b1⟩; have B2 : Hid (Below w.heap.size w w1) := below_from B1.out b1 B1.out.size) | (go_at_call 14; refine (H14.out _ B2.out).mono ?_; rintro e w2 ⟨rfl, b2⟩))
    have B3 : Hid (Below w.heap.size w w2) := below_from B2.out b2.out B2.out.size
    clear b1 b2 H9 H14 B1 B2
    by_cases he : (chR T p L S).1 = 0
    · obtain ⟨G, N, hg⟩ : ∃ G N, chR T p L S = (0, G, N) := by
        obtain ⟨_, _, _, k, _, h⟩ := chR_ok he
        exact ⟨_, _, h⟩
      have H15a : Hid (Calls Try.prog 15 #[.slice q n c, .int .i64 p, .slice qv nv cv, .slice r m d] w2 (ChG w2 G N)) := (H15.out w2 B3.out).mono fun e w' h => h.good hg
      have HG : Hid (Gne T p L S G N) := gone_of hg
      have HL : Hid (G.length ≤ 1000000 ∧ N.length ≤ 1000000) := by
        obtain ⟨h1, _, _, k, h5, h⟩ := chR_ok he
        rw [h] at hg
        cases hg
        constructor
        · rw [List.length_take]
          have h2 := blw_le p (srtV L)
          have h3 := (srtV_perm L).length_eq
          have := HC.out.vl
          omega
        · have h2 := fitR_le T (slA ((blw p (srtV L)).take k) S)
          have := HC.out.n1
          have := HC.out.tn
          omega
      have hgl : G.length ≤ 1000000 := HL.out.1
      clear he hg H15
      obtain ⟨gl, hgle⟩ : ∃ gl, G.length = gl := ⟨_, rfl⟩
      have HGL : Hid (G.length = gl) := hgle
      go_upto_region 5 with (go_at_call 15; refine H15a.out.mono ?_; rintro e w3 ⟨pj, cj, pn, cn, rfl, h3⟩)
      have B4 : Hid (Below w.heap.size w w3) := below_from B3.out h3.out.2.2 B3.out.size
      have HR : Hid (GA 1 jC w3 pj (G.map Vi.j) ∧ NA w3 pn N) := ⟨h3.out.1, h3.out.2.1⟩
      rw [hgle] at hgl
      clear h3 H15a B3 hgle
      have HC3 : Hid (ChA w3 q n c T qv nv L r m d S) := HC.out.below B4.out
      go_wp2_with fail
      go_loopw [12, 13] (fun x y wr => ∃ (i : Nat) (r' : Option Addr) (d' : Nat), x = .slice r' m d' ∧ y = .int .i64 i ∧ i ≤ gl ∧ Hid (SlS wr r' m d' (slA (G.take i) S) ∧ Below w3.heap.size w3 wr)) (fun _ y _ => gl - (intOf y).toNat)
      case atStart => exact ⟨0, r, d, rfl, rfl, Nat.zero_le _, by rw [List.take_zero, slA_nil]; exact HC3.out.s, Below.refl _ _⟩
      case round =>
        obtain ⟨i, r', d', rfl, rfl, hi, HT⟩ := hrel
        by_cases h0 : i = gl
        · subst h0
          have H19 : Hid (Calls Try.prog 19 #[.slice q n c, .slice r' m d'] wr fun e w' => ∃ pr cr, e = .returned (.tuple #[.slice pr N.length cr, .int .i64 0]) ∧ Hid (NA w' pr N ∧ Below wr.heap.size wr w')) := by
            have h1 := HT.out.1
            rw [List.take_of_length_le (Nat.le_of_eq HGL.out)] at h1
            have h2 := fit_o T (slA G S) q r' n c m d' wr (HC3.out.t.below HT.out.2) HC3.out.tn h1 HC3.out.n1 HC3.out.m1
            refine h2.mono ?_
            rintro e w' ⟨pr, kr, cr, rfl, h⟩
            rw [HG.out.r] at h ⊢
            obtain rfl : N.length = kr := h.out.1
            exact ⟨pr, cr, rfl, h.out.2⟩
          have B5 : Hid (Below w3.heap.size w3 wr) := HT.out.2
          clear HT
          go_upto_region 24 with (go_at_call 19; refine H19.out.mono ?_; rintro e w4 ⟨pr, cr, rfl, h4⟩)
          have B6 : Hid (Below w3.heap.size w3 w4) := below_from B5.out h4.out.2 B5.out.size
          have H18 : Hid (Calls Try.prog 18 #[.slice pr N.length cr, .slice pn N.length cn] w4 fun e w' => e = .returned (.bool true) ∧ Hid (Below w4.heap.size w4 w')) := same_any w4 N.length cr cn pr pn N h4.out.1 (HR.out.2.below B6.out) (rfl : _ = _) HL.out.2
          clear H19 h4
          go_wp2_with (go_at_call 18; refine H18.out.mono ?_; rintro e w5 ⟨rfl, b5⟩)
          go_ret
          exact ⟨rfl, below_from B4.out (below_from B6.out b5.out B6.out.size) B4.out.size⟩
        · have hlt' : (i : Int) < (gl : Int) := by omega
          obtain ⟨u, hu⟩ : ∃ u, G[i]? = some u := ⟨G[i]'(by have := HGL.out; omega), List.getElem?_eq_getElem _⟩
          have HU : Hid (G[i]? = some u ∧ u ∈ L ∧ u.p < p) := ⟨hu, HG.out.m u (List.mem_of_getElem? hu), HG.out.p u (List.mem_of_getElem? hu)⟩
          have H19 : Hid (Calls Try.prog 19 #[.slice q n c, .slice r' m d'] wr fun e w' => ∃ pr kr cr, e = .returned (.tuple #[.slice pr kr cr, .int .i64 6]) ∧ Hid (Below wr.heap.size wr w')) := by
            have h2 := fit_o T (slA (G.take i) S) q r' n c m d' wr (HC3.out.t.below HT.out.2) HC3.out.tn HT.out.1 HC3.out.n1 HC3.out.m1
            refine h2.mono ?_
            rintro e w' ⟨pr, kr, cr, rfl, h⟩
            rw [HG.out.f i (by have := HGL.out; omega)]
            exact ⟨pr, kr, cr, rfl, h.out.2.2⟩
          have H20 : Hid (∀ W, Below w3.heap.size w3 W → SlS W r' m d' (slA (G.take i) S) → Calls Try.prog 20 #[.slice u.qT u.nT u.cT, .slice u.qN u.nN u.cN, .slice r' m d'] W fun e w' => ∃ p2 c2, e = .returned (.tuple #[.slice p2 m c2, .int .i64 0]) ∧ Hid (Below W.heap.size W w' ∧ SlS w' p2 m c2 (slA (G.take (i + 1)) S))) := fun W b s => by
            refine (before_vi u (slA (G.take i) S) r' m d' W ((HC3.out.o u HU.out.2.1).below b) s HC3.out.m1).mono ?_
            rintro e w' ⟨p2, k2, c2, rfl, h⟩
            have hs := HG.out.s i u HU.out.1
            rw [hs] at h ⊢
            obtain ⟨q1, q2⟩ := h.out.2 rfl
            have : k2 = m := by rw [← q1.m, ← s.m, slA_length, slA_length]
            subst this
            exact ⟨p2, c2, rfl, h.out.1, q1⟩
          clear hu
          go_upto_region 14 with (go_at_call 19; refine H19.out.mono ?_; rintro e w4 ⟨pr, kr, cr, rfl, b4⟩)
          have HS4 : Hid (SlS w4 r' m d' (slA (G.take i) S) ∧ Below w3.heap.size w3 w4) := ⟨HT.out.1.below b4.out, below_from HT.out.2 b4.out HT.out.2.size⟩
          clear b4 H19 HT
          go_wp2_with fail
          go_loopw [12, 15, 16] (fun x y z wr => ∃ (k : Nat) (r2 : Option Addr) (d2 : Nat) (fe : Int), x = .slice r2 m d2 ∧ y = .int .i64 fe ∧ z = .int .i64 k ∧ k ≤ nv ∧ Hid (Below w3.heap.size w3 wr ∧ ((¬ metV L u k ∧ fe = 6 ∧ r2 = r' ∧ d2 = d' ∧ SlS wr r2 m d2 (slA (G.take i) S)) ∨ (metV L u k ∧ fe = 0 ∧ SlS wr r2 m d2 (slA (G.take (i + 1)) S))))) (fun _ _ z _ => nv - (intOf z).toNat)
          case atStart => exact ⟨0, r', d', 6, rfl, rfl, rfl, Nat.zero_le _, HS4.out.2, .inl ⟨fun ⟨j, h, _⟩ => absurd h (Nat.not_lt_zero _), rfl, rfl, rfl, HS4.out.1⟩⟩
          case round =>
            clear HS4
            obtain ⟨k, r2, d2, fe, rfl, rfl, rfl, hk, HI⟩ := hrel
            by_cases k0 : k = nv
            · subst k0
              have HM : Hid (fe = 0 ∧ SlS wr r2 m d2 (slA (G.take (i + 1)) S) ∧ Below w3.heap.size w3 wr) := by
                have hm := met_all HU.out.2.1
                rw [HC3.out.vl] at hm
                rcases HI.out.2 with h | h
                · exact absurd hm h.1
                · exact ⟨h.2.1, h.2.2, HI.out.1⟩
              obtain rfl := HM.out.1
              clear HI
              go_wp2_with fail
              exact ⟨⟨i + 1, r2, d2, rfl, by simp, by omega, HM.out.2⟩, by simp only [intOf]; omega⟩
            · have hkl : (k : Int) < (nv : Int) := by omega
              obtain ⟨v, hv⟩ : ∃ v, L[k]? = some v := ⟨L[k]'(by have := HC3.out.vl; omega), List.getElem?_eq_getElem _⟩
              obtain ⟨gv, ov, rfl, c0, c1, c2, c3, c4⟩ := VA.at (HC3.out.v.below HI.out.1) hv
              obtain ⟨gj, oj, rfl, l0⟩ := JA.at (HR.out.1.below HI.out.1) (i := i) (x := u.j) (by rw [List.getElem?_map, HU.out.1]; rfl)
              have hvb := cell_lt c0
              have hjb := cell_lt l0
              simp only at hvb hjb
              have HV : Hid (L[k]? = some v) := hv
              have DW : Hid (∀ i, Below w3.heap.size w3 (wr.drewN i) ∧ Below wr.heap.size wr (wr.drewN i)) := fun i => ⟨below_drewN HI.out.1 i, below_drewN (Below.refl _ _) i⟩
              by_cases hj : v.j = u.j
              · have HE : Hid (v = u ∧ ¬ metV L u k) := by
                  obtain ⟨i2, hi2⟩ := List.mem_iff_getElem?.1 HU.out.2.1
                  obtain ⟨q1, q2⟩ := uj_at HG.out.u hv hi2 hj
                  refine ⟨q2, fun ⟨j, hj1, hj2⟩ => ?_⟩
                  obtain ⟨q3, _⟩ := uj_at HG.out.u hj2 hv (by rw [q2])
                  omega
                have HI2 : Hid (fe = 6 ∧ r2 = r' ∧ d2 = d' ∧ SlS wr r2 m d2 (slA (G.take i) S)) := by
                  rcases HI.out.2 with h | h
                  · exact ⟨h.2.1, h.2.2⟩
                  · exact absurd h.1 HE.out.2
                obtain ⟨rfl, rfl, rfl, HS⟩ := HI2.out
                have hvu := HE.out.1
                subst hvu
                have hvp : ¬ p ≤ v.p := by have := HU.out.2.2; omega
                have hvp' : v.p < p := HU.out.2.2
                have HS2 : Hid (SlS wr r2 m d2 (slA (G.take i) S)) := HS
                clear hj HS HI2
                go_upto_region 17 with fail
                go_quiet (fail)
                have d1 : (wr.drewN nq).cell? ⟨gv, ov + k * 5 + 1, none⟩ = some (.int .i64 v.p) := c1
                have d3 : (wr.drewN nq).cell? ⟨gv, ov + k * 5 + 3, none⟩ = some (.slice v.qT v.nT v.cT) := c3
                have d4 : (wr.drewN nq).cell? ⟨gv, ov + k * 5 + 4, none⟩ = some (.slice v.qN v.nN v.cN) := c4
                have hvb1 : gv < (wr.drewN nq).heap.size := hvb
                have HW : Hid (Below w3.heap.size w3 (wr.drewN nq) ∧ SlS (wr.drewN nq) r2 m d2 (slA (G.take i) S)) := ⟨(DW.out _).1, HS2.out.below (DW.out _).2⟩
                generalize wr.drewN nq = W1 at *
                clear c0 c1 c2 c3 c4 l0 hvb hjb DW HS2 HI
                have HM1 : Hid (metV L v (k + 1) ∧ k + 1 ≤ nv) := ⟨⟨k, Nat.lt_succ_self _, HV.out⟩, by omega⟩
                have HD : Hid (∀ j, Below w3.heap.size w3 (W1.drewN j) ∧ SlS (W1.drewN j) r2 m d2 (slA (G.take i) S)) := fun j => ⟨below_drewN HW.out.1 j, HW.out.2.below (below_drewN (Below.refl _ _) j)⟩
                have H20' : Hid (∀ j, Calls Try.prog 20 #[.slice v.qT v.nT v.cT, .slice v.qN v.nN v.cN, .slice r2 m d2] (W1.drewN j) fun e w' => ∃ p2 c2, e = .returned (.tuple #[.slice p2 m c2, .int .i64 0]) ∧ Hid (Below w3.heap.size w3 w' ∧ SlS w' p2 m c2 (slA (G.take (i + 1)) S))) := fun j => (H20.out _ (HD.out j).1 (HD.out j).2).mono fun e w' ⟨p2, c2, h1, h2⟩ => ⟨p2, c2, h1, below_from (HD.out j).1 h2.out.1 (HD.out j).1.size, h2.out.2⟩
                clear H20
                go_upto_region 20 with fail
                go_region_with (go_at_call 20; refine (H20'.out _).mono ?_; rintro e w6 ⟨p2, c2, rfl, h6⟩)
                all_goals
                  go_wp2_with fail
                  exact ⟨⟨k + 1, p2, c2, 0, rfl, rfl, by simp, HM1.out.2, h6.out.1, .inr ⟨HM1.out.1, rfl, h6.out.2⟩⟩, by simp only [intOf]; omega⟩
              · have HN : Hid (metV L u (k + 1) ↔ metV L u k) := by
                  constructor
                  · rintro ⟨j, h1, h2⟩
                    by_cases q : j = k
                    · subst q
                      have : v = u := Option.some.inj (HV.out.symm.trans h2)
                      rw [this] at hj
                      exact absurd rfl hj
                    · exact ⟨j, by omega, h2⟩
                  · rintro ⟨j, h1, h2⟩
                    exact ⟨j, by omega, h2⟩
                have hj2 : (v.j == u.j) = false := by rw [beq_eq_false_iff_ne]; exact hj
                have HZ : Hid (∀ W, Below wr.heap.size wr W → Below w3.heap.size w3 W ∧ ((¬ metV L u (k + 1) ∧ fe = 6 ∧ r2 = r' ∧ d2 = d' ∧ SlS W r2 m d2 (slA (G.take i) S)) ∨ (metV L u (k + 1) ∧ fe = 0 ∧ SlS W r2 m d2 (slA (G.take (i + 1)) S)))) := fun W b => by
                  rw [HN.out]
                  refine ⟨below_from HI.out.1 b HI.out.1.size, ?_⟩
                  rcases HI.out.2 with ⟨h1, h2, h3, h4, h5⟩ | ⟨h1, h2, h3⟩
                  · exact .inl ⟨h1, h2, h3, h4, h5.below b⟩
                  · exact .inr ⟨h1, h2, h3.below b⟩
                have hkl2 : Hid (k + 1 ≤ nv) := by show _ ≤ _; omega
                clear HI HV hv
                generalize v.j = vj at *
                generalize u.j = uj at *
                go_upto_region 17 with fail
                go_quiet (fail)
                go_wp2_with fail
                exact ⟨⟨k + 1, r2, d2, fe, rfl, rfl, by simp, hkl2.out, HZ.out _ (DW.out _).2⟩, by simp only [intOf]; omega⟩
    · obtain ⟨en, hen⟩ : ∃ en, (chR T p L S).1 = en := ⟨_, rfl⟩
      have hc := chR_bad he
      rw [hen] at hc he
      have e1 : ¬ (en : Int) = 0 := by omega
      have e2 : ((en : Int) == 0) = false := by rw [beq_eq_false_iff_ne]; exact e1
      have H15a : Hid (Calls Try.prog 15 #[.slice q n c, .int .i64 p, .slice qv nv cv, .slice r m d] w2 fun e w' => ∃ pj cj pn cn, e = .returned (.tuple #[.slice pj 0 cj, .slice pn 0 cn, .int .i64 (en : Int)]) ∧ Hid (Below w2.heap.size w2 w')) := (H15.out w2 B3.out).mono fun e w' h => h.no hc
      clear hen hc H15 he
      go_wp2_with (go_at_call 15; refine H15a.out.mono ?_; rintro e w3 ⟨pj, cj, pn, cn, rfl, b3⟩)
      go_ret
      exact ⟨rfl, below_from B3.out b3.out B3.out.size⟩
end Go.Proofs.Ytcfnonfghlgphaa
