/-
  The law FillRoom.
-/
import Derived.Test.YtjgibngnjlciaaaFn
import Derived.Test.YtjgibngnjlciaaaHd
namespace Go.Proofs.Ytjgibngnjlciaaa
open Go.RowKit Go.Maps

/-- what is known where there is a start -/
structure RmK (w : World) (now t : Int) (T : List V) (L : List Vi) (S : List Sl) (N : List (List UInt8)) : Prop where
  gv : Gv L S
  aS : allS S = true
  nd : Nod S
  st : staN now T L S = some t
  nm : N = (fitR T (stA now L S t)).2
  ok : VOk w L
  ft : (fitR T S).1 = 0 ∨ (fitR T S).1 = 6
theorem room_perm {R : List Vi} (p : Vi → Bool) {k : Nat} {v : Vi} (hv : R[k]? = some v) : (((R.take k).filter p ++ [v]) ++ ((R.take k).filter (fun x => !p x) ++ R.drop (k + 1))).Perm R := by
  have h1 : R = R.take k ++ v :: R.drop (k + 1) := by rw [← drop_at_cons hv, List.take_append_drop]
  have h2 := List.filter_append_perm p (R.take k)
  conv => rhs; rw [h1]
  refine List.Perm.trans ?_ (h2.append_right _)
  rw [List.append_assoc, List.append_assoc]
  refine List.Perm.append_left _ ?_
  rw [List.singleton_append]
  exact (List.perm_middle).symm
theorem room_give {R : List Vi} {S : List Sl} (hG : Gv R S) (hS : allS S = true) (p : Vi → Bool) {k : Nat} {v : Vi} (hv : R[k]? = some v) (hp : p v = true) : movR addR v.T v.N (slA ((R.take k).filter p) S) = (0, slA ((R.take (k + 1)).filter p) S) := by
  have hA : Gv ((R.take k).filter p ++ [v]) S := hG.sub hS (room_perm p hv)
  have hB : Gv ((R.take k).filter p) S := hA.sub hS (List.Perm.refl _)
  have e1 := give_all _ S hS hA
  have e2 := give_all _ S hS hB
  rw [gvG_append, e2, if_pos rfl] at e1
  have e3 : (if (movR addR v.T v.N (slA ((R.take k).filter p) S)).1 = 0 then (0, (movR addR v.T v.N (slA ((R.take k).filter p) S)).2) else ((movR addR v.T v.N (slA ((R.take k).filter p) S)).1, [])) = (0, slA ((R.take k).filter p ++ [v]) S) := e1
  have e4 : (R.take (k + 1)).filter p = (R.take k).filter p ++ [v] := by
    rw [take_next hv, List.filter_append, List.filter_cons_of_pos hp]; rfl
  rw [e4]
  by_cases h0 : (movR addR v.T v.N (slA ((R.take k).filter p) S)).1 = 0
  · rw [if_pos h0] at e3
    have := congrArg Prod.snd e3
    exact Prod.ext h0 this
  · rw [if_neg h0] at e3
    exact absurd (congrArg Prod.fst e3) h0
theorem room_skip {R : List Vi} {S : List Sl} (p : Vi → Bool) {k : Nat} {v : Vi} (hv : R[k]? = some v) (hp : p v = false) : slA ((R.take (k + 1)).filter p) S = slA ((R.take k).filter p) S := by
  rw [take_next hv, List.filter_append, List.filter_cons_of_neg (by rw [hp]; decide), List.filter_nil, List.append_nil]
theorem fit_stA {now : Int} {T : List V} {L : List Vi} {S : List Sl} (hG : Gv L S) (hS : allS S = true) (hf : (fitR T S).1 = 0 ∨ (fitR T S).1 = 6) (a : Int) : (fitR T (stA now L S a)).1 = 0 ∨ (fitR T (stA now L S a)).1 = 6 := by
  have hB : Gv (L.filter fun u => decide (en now u ≤ a)) S := hG.sub hS (List.filter_append_perm _ L)
  exact fitR_two (chk_nm (slA_nm _ _) (slA_ok hB.2) (fitR_chk hf))
theorem room_fit {w : World} {now t a : Int} {T : List V} {L : List Vi} {S : List Sl} {N : List (List UInt8)} (h : RmK w now t T L S N) (ha : a ∈ cand now L) (_ : a ≤ t) : (a < t → (fitR T (stA now L S a)).1 = 6) ∧ (a = t → (fitR T (stA now L S a)).1 = 0 ∧ (fitR T (stA now L S a)).2 = N) := by
  obtain ⟨s1, s2, s3⟩ := staN_some.1 h.st
  refine ⟨fun hlt => ?_, fun e => ?_⟩
  · rcases fit_stA (now := now) h.gv h.aS h.ft a with q | q
    · have := s3 a ha q
      omega
    · exact q
  · subst e
    exact ⟨s2, h.nm.symm⟩
set_option maxHeartbeats 8000000 in
set_option maxRecDepth 100000 in
theorem room_law (now rt : Int) (qH qL qv r : Option Addr) (nH cH nL cL nv cv m d : Nat) (T U : List V) (L : List Vi) (S : List Sl) (w : World) (hA : LwA w now rt qH nH cH T qL nL cL U qv nv L r m d S) :
    Calls Try.prog 6 #[xA now rt qH nH cH qL nL cL, .slice qv nv cv, .slice r m d] w fun e w' => e = .returned (.bool true) ∧ Below w.heap.size w w' := by
  have H7 : Hid (∀ W, Calls Try.prog 7 #[] W fun e w' => e = .returned (.bool true) ∧ Below W.heap.size W w') := awake18
  have H8 : Hid (∀ W, Below w.heap.size w W → Calls Try.prog 8 #[xA now rt qH nH cH qL nL cL, .slice qv nv cv, .slice r m d] W fun e w' => e = .returned (.bool (fewV nH nL L m)) ∧ Hid (Below W.heap.size W w')) := hA.few cv
  have HA : Hid (LwA w now rt qH nH cH T qL nL cL U qv nv L r m d S) := hA
  clear hA
  have B0 : Hid (Below w.heap.size w (w.alloc (.cells #[.int .i64 now, .int .i64 rt, .slice qH nH cH, .slice qL nL cL] 24))) := (Below.refl _ w).alloc (Nat.le_refl _) _
  have HN : Hid ((w.alloc (.cells #[.int .i64 now, .int .i64 rt, .slice qH nH cH, .slice qL nL cL] 24)).heap[w.heap.size]? = some (.cells #[.int .i64 now, .int .i64 rt, .slice qH nH cH, .slice qL nL cL] 24)) := new0
  cases hf : fewV nH nL L m with
  | false =>
    rw [hf] at H8
    clear hf
    go_enter Try.func6, Try.ntmps6
    go_upto_region 1 with fail
    generalize w.alloc (.cells #[.int .i64 now, .int .i64 rt, .slice qH nH cH, .slice qL nL cL] 24) = W at *
    go_upto_region 2 with (first | (go_at_call 7; refine (H7.out _).mono ?_; rintro e w1 ⟨rfl, b1⟩; have B1 : Hid (Below w.heap.size w w1) := below_from B0.out b1 B0.out.size; have z1 := at_below b1 (Nat.le_refl _) HN.out; have c0 := Lib.cell_of_heap z1 0; have c1 := Lib.cell_of_heap z1 1; have c2 := Lib.cell_of_heap z1 2; have c3 := Lib.cell_of_heap z1 3; clear z1) | (go_at_call 8; refine (H8.out _ B1.out).mono ?_; rintro e w2 ⟨rfl, b2⟩))
    have B2 : Hid (Below w.heap.size w w2) := below_from B1.out b2.out B1.out.size
    clear c0 c1 c2 c3 b1 b2
    go_wp2_with (go_at_call 7; refine (H7.out _).mono ?_; rintro e w3 ⟨rfl, b3⟩)
    go_ret
    exact ⟨rfl, below_from B2.out b3 B2.out.size⟩
  | true =>
    have HG := HA.out.st hf
    obtain ⟨f1, f2, f3, f4, f5⟩ := fewV_le hf
    have HS : Hid (StG w qH nH cH qv nv r m d T L S) := HG
    obtain ⟨t, ht⟩ : ∃ t, (startR now T L S).1 = t := ⟨_, rfl⟩
    obtain ⟨N, hN⟩ : ∃ N, (startR now T L S).2.1 = N := ⟨_, rfl⟩
    obtain ⟨en', he⟩ : ∃ x, (startR now T L S).2.2 = x := ⟨_, rfl⟩
    have H9 : Hid (∀ W, Below w.heap.size w W → Calls Try.prog 9 #[.int .i64 now, .slice qH nH cH, .slice qv nv cv, .slice r m d] W fun e w' => ∃ p k c, e = .returned (.tuple #[.int .i64 t, .slice p k c, .int .i64 (en' : Nat)]) ∧ N.length = k ∧ Hid (NA w' p N ∧ Below W.heap.size W w')) := fun W b => (start_any now qH qv r nH cH nv cv m d T L S W (HS.out.below b)).mono fun e w' ⟨p, k, c, e1, e2, e3, e4⟩ => by
      rw [ht, he] at e1; rw [hN] at e2 e4; exact ⟨p, k, c, e1, e2, e4⟩
    have HM1 : Hid (N.length ≤ 1000000) := by
      have h1 := start_len now T L S
      have h2 := HS.out.lt
      have h3 := HS.out.n1
      rw [hN] at h1
      show N.length ≤ _
      omega
    have hnv : nv ≤ 30 := by have := HA.out.vl; omega
    obtain ⟨m1, m2⟩ := now_math now T L S
    rw [hN, he] at m1
    rw [ht, hN, he] at m2
    have m1' : Hid (en' ≠ 0 → N = []) := fun q => (m1 q).2.1
    have m2' : Hid (en' = 0 → wthn now L = true ∧ RmK w now t T L S N) := fun q => by
      obtain ⟨a1, a2, a3, a4, a5, a6, a7, a8⟩ := m2 q
      exact ⟨a1, a2, a3, a4, a6, a7, HA.out.ok hf, a8⟩
    rw [hf] at H8
    clear hf HG m1 m2 ht hN he f1 f2 f3 f4 f5
    by_cases h0 : en' = 0
    · subst h0
      obtain ⟨hwt, hrm⟩ := m2'.out rfl
      obtain ⟨wa, wb, -, -⟩ := wthn_true hwt
      have HX : Hid (RmK w now t T L S N) := hrm
      clear m1' m2' hwt hrm
      go_enter Try.func6, Try.ntmps6
      go_upto_region 1 with fail
      generalize w.alloc (.cells #[.int .i64 now, .int .i64 rt, .slice qH nH cH, .slice qL nL cL] 24) = W at *
      go_upto_region 3 with (first | (go_at_call 7; refine (H7.out _).mono ?_; rintro e w1 ⟨rfl, b1⟩; have B1 : Hid (Below w.heap.size w w1 ∧ Below W.heap.size W w1) := ⟨below_from B0.out b1 B0.out.size, b1⟩; have z1 := at_below b1 (Nat.le_refl _) HN.out; have c0 := Lib.cell_of_heap z1 0; have c1 := Lib.cell_of_heap z1 1; have c2 := Lib.cell_of_heap z1 2; have c3 := Lib.cell_of_heap z1 3; clear z1 b1) | (go_at_call 8; refine (H8.out _ B1.out.1).mono ?_; rintro e w2 ⟨rfl, b2⟩))
      have B2 : Hid (Below w.heap.size w w2 ∧ w2.heap[w.heap.size]? = some (.cells #[.int .i64 now, .int .i64 rt, .slice qH nH cH, .slice qL nL cL] 24)) := ⟨below_from B1.out.1 b2.out B1.out.1.size, at_below (below_from B1.out.2 b2.out B1.out.2.size) (Nat.le_refl _) HN.out⟩
      clear c0 c1 c2 c3 b2 B1
      have c0 := Lib.cell_of_heap B2.out.2 0
      have c2 := Lib.cell_of_heap B2.out.2 2
      go_wp2_with (go_at_call 9; refine (H9.out _ B2.out.1).mono ?_; rintro e w4 ⟨p3, k3, c3, rfl, n3, h3⟩; have B4 : Hid (Below w.heap.size w w4) := below_from B2.out.1 h3.out.2 B2.out.1.size; have Y0 : Hid (w4.heap[w.heap.size]? = some (.cells #[.int .i64 now, .int .i64 rt, .slice qH nH cH, .slice qL nL cL] 24)) := at_below h3.out.2 (Nat.le_refl _) B2.out.2; have N3 : Hid (NA w4 p3 N) := h3.out.1; clear c0 c2 h3 B2)
      go_loopw [10] (fun x wr => ∃ i : Nat, x = .int .i64 i ∧ i ≤ nv + 1 ∧ Hid (Below w4.heap.size w4 wr)) (fun x _ => nv + 1 - (intOf x).toNat)
      case atStart => exact ⟨0, rfl, Nat.zero_le _, Below.refl _ _⟩
      case round =>
        obtain ⟨i, rfl, hi, HB⟩ := hrel
        by_cases hin : i = nv + 1
        · subst hin
          have hgt : ¬ ((nv + 1 : Nat) : Int) ≤ (nv : Int) := by omega
          have hgt' : decide (((nv + 1 : Nat) : Int) ≤ (nv : Int)) = false := decide_eq_false hgt
          go_wp2_with fail
          go_ret
          exact ⟨rfl, below_from B4.out HB.out B4.out.size⟩
        · have hle : (i : Int) ≤ (nv : Int) := by omega
          have hle' : decide ((i : Int) ≤ (nv : Int)) = true := decide_eq_true hle
          have hcb := at_below HB.out (Nat.le_refl _) Y0.out
          have y0 := Lib.cell_of_heap hcb 0
          clear hcb
          by_cases hiv : i = nv
          · have hiv' := hiv.symm
            subst hiv'
            have hlt4 : ¬ (nv : Int) < (nv : Int) := by omega
            have hd4 : decide ((nv : Int) < (nv : Int)) = false := decide_eq_false hlt4
            go_upto_region 12 with fail
            have HCa : Hid (now ∈ cand now L ∧ now ≤ now) := ⟨cand_mem.2 (.inl rfl), Int.le_refl _⟩
            by_cases hat : t < now
            · have hat' : decide (t < now) = true := decide_eq_true hat
              go_wp2_with fail
              exact ⟨⟨nv + 1, by simp, by omega, HB.out⟩, by simp only [intOf]; omega⟩
            · have hat' : decide (t < now) = false := decide_eq_false hat
              go_upto_region 15 with fail
              go_wp2_with fail
              go_loopw [12, 13, 14] (fun x z y wx => ∃ (q : Option Addr) (c' k : Nat), x = .slice q m c' ∧ z = .int .i64 0 ∧ y = .int .i64 k ∧ k ≤ nv ∧ Hid (SlS wx q m c' (slA ((L.take k).filter fun u => decide (en now u ≤ now)) S) ∧ Below w4.heap.size w4 wx)) (fun _ _ y _ => nv - (intOf y).toNat)
              case atStart =>
                refine ⟨r, d, 0, rfl, rfl, rfl, Nat.zero_le _, ?_, HB.out⟩
                rw [List.take_zero, List.filter_nil, slA_nil]
                exact HA.out.s.below (below_from B4.out HB.out B4.out.size)
              case round =>
                obtain ⟨q, c', k, rfl, rfl, rfl, hk, HK⟩ := hrel
                by_cases hkn : k = nv
                · subst hkn
                  have HF : Hid (SlS wr q m c' (stA now L S now) ∧ Below w4.heap.size w4 wr) := by
                    have h1 := HK.out
                    rw [List.take_of_length_le (Nat.le_of_eq HA.out.vl)] at h1
                    exact h1
                  clear HK hk
                  obtain ⟨f, hff⟩ : ∃ f, (fitR T (stA now L S now)).1 = f := ⟨_, rfl⟩
                  obtain ⟨M, hM⟩ : ∃ M, (fitR T (stA now L S now)).2 = M := ⟨_, rfl⟩
                  have b5 : Hid (Below w.heap.size w wr) := below_from B4.out HF.out.2 B4.out.size
                  have H16 : Hid (Calls Try.prog 16 #[.slice qH nH cH, .slice q m c'] wr fun e w' => ∃ p k c, e = .returned (.tuple #[.slice p k c, .int .i64 (f : Nat)]) ∧ M.length = k ∧ Hid (NA w' p M ∧ Below wr.heap.size wr w')) := by
                    have hs := HF.out.1
                    refine (fit_any T (stA now L S now) qH q nH cH m c' wr (HS.out.t.below b5.out) hs.s hs.h hs.d HS.out.lt hs.m HS.out.n1 (by have := HS.out.n3; omega)).mono ?_
                    rintro e w' ⟨p, k, c, e1, e2, e3, e4⟩
                    rw [hff] at e1; rw [hM] at e2 e4
                    exact ⟨p, k, c, e1, e2, e4⟩
                  have hcb := at_below HF.out.2 (Nat.le_refl _) Y0.out
                  have y2 := Lib.cell_of_heap hcb 2
                  clear hcb
                  obtain ⟨r1, r2⟩ := room_fit HX.out HCa.out.1 (show now ≤ t by omega)
                  rw [hff] at r1 r2
                  rw [hM] at r2
                  clear hff hM
                  by_cases hae : now = t
                  · obtain ⟨s1, s2⟩ := r2 hae
                    subst s1
                    obtain rfl := s2.symm
                    clear r1
                    subst hae
                    have i2 : decide (now < now) = false := decide_eq_false (by omega)
                    have i3 : ¬ now < now := by omega
                    have H13 : Hid (∀ W k q1 c1 q2 c2, NA W q1 N → NA W q2 N → N.length = k → Calls Try.prog 13 #[.slice q1 k c1, .slice q2 k c2] W fun e w' => e = .returned (.bool true) ∧ Hid (Below W.heap.size W w')) := fun W k q1 c1 q2 c2 a b hk => same_any W k c1 c2 q1 q2 N a b hk (by have := HM1.out; omega)
                    go_wp2_with (first
                      | (go_at_call 16; refine H16.out.mono ?_; rintro e w6 ⟨p6, k6, c6, rfl, n6, h6⟩; obtain rfl : k3 = k6 := n3.symm.trans n6; have b6 : Hid (Below w4.heap.size w4 w6) := below_from HF.out.2 h6.out.2 HF.out.2.size; clear H16)
                      | (go_at_call 13; refine (H13.out _ _ _ _ _ _ (N3.out.below b6.out) h6.out.1 n3).mono ?_; rintro e w7 ⟨rfl, b7⟩; clear H13))
                    exact ⟨⟨k + 1, by simp, by omega, below_from b6.out b7.out b6.out.size⟩, by simp only [intOf]; omega⟩
                  · have s1 := r1 (by omega)
                    subst s1
                    clear r2
                    have i1 : (now == t) = false := by simpa using hae
                    have i2 : decide (now < t) = true := decide_eq_true (by omega)
                    have i3 : now < t := by omega
                    go_wp2_with (go_at_call 16; refine H16.out.mono ?_; rintro e w6 ⟨p6, k6, c6, rfl, n6, h6⟩; have b6 : Hid (Below w4.heap.size w4 w6) := below_from HF.out.2 h6.out.2 HF.out.2.size; clear H16)
                    exact ⟨⟨k + 1, by simp, by omega, b6.out⟩, by simp only [intOf]; omega⟩
                · have hlt5 : (k : Int) < (nv : Int) := by omega
                  have hd5 : decide ((k : Int) < (nv : Int)) = true := decide_eq_true hlt5
                  obtain ⟨u, hu⟩ : ∃ u, L[k]? = some u := ⟨L[k]'(by have := HA.out.vl; omega), List.getElem?_eq_getElem _⟩
                  have b5 : Hid (Below w.heap.size w wr) := below_from B4.out HK.out.2 B4.out.size
                  obtain ⟨g, o, hqv, c0, c1, c2, c3⟩ := VA.at (HA.out.v.below b5.out) hu
                  subst hqv
                  have hcb := at_below HK.out.2 (Nat.le_refl _) Y0.out
                  have y0 := Lib.cell_of_heap hcb 0
                  obtain ⟨E2, hE2⟩ : ∃ E2, max u.p (now + 1) = E2 := ⟨_, rfl⟩
                  have HD : Hid (∀ j, Below w4.heap.size w4 (wr.drewN j)) := fun j => below_from HK.out.2 (below_drewN (Below.refl _ wr) j) HK.out.2.size
                  have HD1 : Hid (Below w.heap.size w wr.drew ∧ Below wr.heap.size wr wr.drew) := ⟨below_from b5.out ((Below.refl _ _).drew) b5.out.size, (Below.refl _ _).drew⟩
                  by_cases hnow : now < now
                  · exact absurd hnow (Int.lt_irrefl _)
                  · have hnow' : decide (now < now) = false := decide_eq_false hnow
                    have HP : Hid (SlS wr q m c' (slA ((L.take (k + 1)).filter fun u => decide (en now u ≤ now)) S)) := by
                      rw [room_skip (fun u => decide (en now u ≤ now)) hu (decide_eq_false (by have := en_gt now u; omega))]
                      exact HK.out.1
                    clear hu hcb HK c0 c2 c3 c1 hE2
                    go_upto_region 18 with fail
                    go_quiet (fail)
                    go_wp2_with fail
                    exact ⟨⟨q, c', k + 1, rfl, rfl, by simp, by omega, HP.out.below (below_drewN (Below.refl _ wr) _), HD.out _⟩, by simp only [intOf]; omega⟩
          · have hlt4 : (i : Int) < (nv : Int) := by omega
            have hd4 : decide ((i : Int) < (nv : Int)) = true := decide_eq_true hlt4
            obtain ⟨v, hv⟩ : ∃ v, L[i]? = some v := ⟨L[i]'(by have := HA.out.vl; omega), List.getElem?_eq_getElem _⟩
            obtain ⟨g0, o0, hqv, c0, c1, c2, c3⟩ := VA.at (HA.out.v.below (below_from B4.out HB.out B4.out.size)) hv
            subst hqv
            obtain ⟨E, hE⟩ : ∃ E, max v.p (now + 1) = E := ⟨_, rfl⟩
            have HE : Hid (E ∈ cand now L ∧ now ≤ E) := by
              have h1 : E ∈ cand now L := cand_mem.2 (.inr ⟨v, List.mem_of_getElem? hv, hE⟩)
              exact ⟨h1, cand_le h1⟩
            obtain ⟨vp, hvp⟩ : ∃ vp, v.p = vp := ⟨_, rfl⟩
            rw [hvp] at hE c1
            clear hv hvp c0 c2 c3
            go_upto_region 11 with fail
            go_region
            have BW5 : Hid (Below w4.heap.size w4 wr.drew) := below_from HB.out ((Below.refl _ _).drew) HB.out.size
            clear y0 c1 hE HB
            have HB : Hid (Below w4.heap.size w4 wr.drew) := BW5
            clear BW5
            generalize wr.drew = W5 at *
            have HCa : Hid (E ∈ cand now L ∧ now ≤ E) := HE.out
            by_cases hat : t < E
            · have hat' : decide (t < E) = true := decide_eq_true hat
              go_wp2_with fail
              exact ⟨⟨i + 1, by simp, by omega, HB.out⟩, by simp only [intOf]; omega⟩
            · have hat' : decide (t < E) = false := decide_eq_false hat
              go_upto_region 15 with fail
              go_wp2_with fail
              go_loopw [12, 13, 14] (fun x z y wx => ∃ (q : Option Addr) (c' k : Nat), x = .slice q m c' ∧ z = .int .i64 0 ∧ y = .int .i64 k ∧ k ≤ nv ∧ Hid (SlS wx q m c' (slA ((L.take k).filter fun u => decide (en now u ≤ E)) S) ∧ Below w4.heap.size w4 wx)) (fun _ _ y _ => nv - (intOf y).toNat)
              case atStart =>
                refine ⟨r, d, 0, rfl, rfl, rfl, Nat.zero_le _, ?_, HB.out⟩
                rw [List.take_zero, List.filter_nil, slA_nil]
                exact HA.out.s.below (below_from B4.out HB.out B4.out.size)
              case round =>
                obtain ⟨q, c', k, rfl, rfl, rfl, hk, HK⟩ := hrel
                by_cases hkn : k = nv
                · subst hkn
                  have HF : Hid (SlS wr q m c' (stA now L S E) ∧ Below w4.heap.size w4 wr) := by
                    have h1 := HK.out
                    rw [List.take_of_length_le (Nat.le_of_eq HA.out.vl)] at h1
                    exact h1
                  clear HK hk
                  obtain ⟨f, hff⟩ : ∃ f, (fitR T (stA now L S E)).1 = f := ⟨_, rfl⟩
                  obtain ⟨M, hM⟩ : ∃ M, (fitR T (stA now L S E)).2 = M := ⟨_, rfl⟩
                  have b5 : Hid (Below w.heap.size w wr) := below_from B4.out HF.out.2 B4.out.size
                  have H16 : Hid (Calls Try.prog 16 #[.slice qH nH cH, .slice q m c'] wr fun e w' => ∃ p k c, e = .returned (.tuple #[.slice p k c, .int .i64 (f : Nat)]) ∧ M.length = k ∧ Hid (NA w' p M ∧ Below wr.heap.size wr w')) := by
                    have hs := HF.out.1
                    refine (fit_any T (stA now L S E) qH q nH cH m c' wr (HS.out.t.below b5.out) hs.s hs.h hs.d HS.out.lt hs.m HS.out.n1 (by have := HS.out.n3; omega)).mono ?_
                    rintro e w' ⟨p, k, c, e1, e2, e3, e4⟩
                    rw [hff] at e1; rw [hM] at e2 e4
                    exact ⟨p, k, c, e1, e2, e4⟩
                  have hcb := at_below HF.out.2 (Nat.le_refl _) Y0.out
                  have y2 := Lib.cell_of_heap hcb 2
                  clear hcb
                  obtain ⟨r1, r2⟩ := room_fit HX.out HCa.out.1 (show E ≤ t by omega)
                  rw [hff] at r1 r2
                  rw [hM] at r2
                  clear hff hM
                  by_cases hae : E = t
                  · obtain ⟨s1, s2⟩ := r2 hae
                    subst s1
                    obtain rfl := s2.symm
                    clear r1
                    subst hae
                    have i2 : decide (E < E) = false := decide_eq_false (by omega)
                    have i3 : ¬ E < E := by omega
                    have H13 : Hid (∀ W k q1 c1 q2 c2, NA W q1 N → NA W q2 N → N.length = k → Calls Try.prog 13 #[.slice q1 k c1, .slice q2 k c2] W fun e w' => e = .returned (.bool true) ∧ Hid (Below W.heap.size W w')) := fun W k q1 c1 q2 c2 a b hk => same_any W k c1 c2 q1 q2 N a b hk (by have := HM1.out; omega)
                    go_wp2_with (first
                      | (go_at_call 16; refine H16.out.mono ?_; rintro e w6 ⟨p6, k6, c6, rfl, n6, h6⟩; obtain rfl : k3 = k6 := n3.symm.trans n6; have b6 : Hid (Below w4.heap.size w4 w6) := below_from HF.out.2 h6.out.2 HF.out.2.size; clear H16)
                      | (go_at_call 13; refine (H13.out _ _ _ _ _ _ (N3.out.below b6.out) h6.out.1 n3).mono ?_; rintro e w7 ⟨rfl, b7⟩; clear H13))
                    exact ⟨⟨i + 1, by simp, by omega, below_from b6.out b7.out b6.out.size⟩, by simp only [intOf]; omega⟩
                  · have s1 := r1 (by omega)
                    subst s1
                    clear r2
                    have i1 : (E == t) = false := by simpa using hae
                    have i2 : decide (E < t) = true := decide_eq_true (by omega)
                    have i3 : E < t := by omega
                    go_wp2_with (go_at_call 16; refine H16.out.mono ?_; rintro e w6 ⟨p6, k6, c6, rfl, n6, h6⟩; have b6 : Hid (Below w4.heap.size w4 w6) := below_from HF.out.2 h6.out.2 HF.out.2.size; clear H16)
                    exact ⟨⟨i + 1, by simp, by omega, b6.out⟩, by simp only [intOf]; omega⟩
                · have hlt5 : (k : Int) < (nv : Int) := by omega
                  have hd5 : decide ((k : Int) < (nv : Int)) = true := decide_eq_true hlt5
                  obtain ⟨u, hu⟩ : ∃ u, L[k]? = some u := ⟨L[k]'(by have := HA.out.vl; omega), List.getElem?_eq_getElem _⟩
                  have b5 : Hid (Below w.heap.size w wr) := below_from B4.out HK.out.2 B4.out.size
                  obtain ⟨g, o, hqv, c0, c1, c2, c3⟩ := VA.at (HA.out.v.below b5.out) hu
                  obtain ⟨e5, e6⟩ : g = g0 ∧ o = o0 := by injection hqv with e; injection e with e1 e2; exact ⟨e1.symm, e2.symm⟩
                  subst e5 e6
                  have hcb := at_below HK.out.2 (Nat.le_refl _) Y0.out
                  have y0 := Lib.cell_of_heap hcb 0
                  obtain ⟨E2, hE2⟩ : ∃ E2, max u.p (now + 1) = E2 := ⟨_, rfl⟩
                  have HD : Hid (∀ j, Below w4.heap.size w4 (wr.drewN j)) := fun j => below_from HK.out.2 (below_drewN (Below.refl _ wr) j) HK.out.2.size
                  have HD1 : Hid (Below w.heap.size w wr.drew ∧ Below wr.heap.size wr wr.drew) := ⟨below_from b5.out ((Below.refl _ _).drew) b5.out.size, (Below.refl _ _).drew⟩
                  by_cases hnow : now < E
                  · have hnow' : decide (now < E) = true := decide_eq_true hnow
                    by_cases hEa : E2 ≤ E
                    · have hEa' : decide (E2 ≤ E) = true := decide_eq_true hEa
                      have HP : Hid (movR addR u.T u.N (slA ((L.take k).filter fun u => decide (en now u ≤ E)) S) = (0, slA ((L.take (k + 1)).filter fun u => decide (en now u ≤ E)) S)) := room_give HX.out.gv HX.out.aS (fun u => decide (en now u ≤ E)) hu (decide_eq_true (by unfold en; omega))
                      have HO : Hid (u.ok w) := HX.out.ok u (List.mem_of_getElem? hu)
                      have H17 : Hid (∀ w1, Below wr.heap.size wr w1 → Calls Try.prog 17 #[.slice u.qT u.nT u.cT, .slice u.qN u.nN u.cN, .slice q m c'] w1 fun e w' => ∃ p c, e = .returned (.tuple #[.slice p m c, .int .i64 0]) ∧ Hid (SlS w' p m c (slA ((L.take (k + 1)).filter fun u => decide (en now u ≤ E)) S) ∧ Below w4.heap.size w4 w') ∧ (w'.cell? ⟨g, o + k * 4 + 2, none⟩ = some (.slice u.qT u.nT u.cT) ∧ w'.cell? ⟨g, o + k * 4 + 3, none⟩ = some (.slice u.qN u.nN u.cN))) := fun w1 b => by
                        have b6 := below_from HK.out.2 b HK.out.2.size
                        refine (before_vi u _ q m c' w1 (HO.out.below (below_from B4.out b6 B4.out.size)) (HK.out.1.below b) (by have := HS.out.n3; omega)).mono ?_
                        rintro e w' ⟨p, k', c, e1, h4⟩
                        rw [HP.out] at e1 h4
                        have h5 := h4.out.2 rfl
                        have hk' : k' = m := by
                          have h6 := h5.1.m
                          have h7 := HA.out.s.m
                          rw [slA_length] at h6
                          omega
                        subst hk'
                        exact ⟨p, c, e1, ⟨h5.1, below_from b6 h4.out.1 b6.size⟩, cell_below c2 (below_from b h4.out.1 b.size), cell_below c3 (below_from b h4.out.1 b.size)⟩
                      obtain ⟨up, hup⟩ : ∃ up, u.p = up := ⟨_, rfl⟩
                      rw [hup] at hE2 c1
                      obtain ⟨uqT, huqT⟩ : ∃ x, u.qT = x := ⟨_, rfl⟩
                      obtain ⟨unT, hunT⟩ : ∃ x, u.nT = x := ⟨_, rfl⟩
                      obtain ⟨ucT, hucT⟩ : ∃ x, u.cT = x := ⟨_, rfl⟩
                      obtain ⟨uqN, huqN⟩ : ∃ x, u.qN = x := ⟨_, rfl⟩
                      obtain ⟨unN, hunN⟩ : ∃ x, u.nN = x := ⟨_, rfl⟩
                      obtain ⟨ucN, hucN⟩ : ∃ x, u.cN = x := ⟨_, rfl⟩
                      rw [huqT, hunT, hucT] at H17 c2
                      rw [huqN, hunN, hucN] at H17 c3
                      clear huqT hunT hucT huqN hunN hucN hup hu hcb HP HO HK
                      go_upto_region 18 with fail
                      go_region
                      have BW6 : Hid (Below wr.heap.size wr wr.drew ∧ Below wr.heap.size wr wr.drew.drew) := ⟨(Below.refl _ _).drew, ((Below.refl _ _).drew).drew⟩
                      have d2 := cell_below c2 BW6.out.1
                      have d3 := cell_below c3 BW6.out.1
                      clear y0 c0 c1 c2 c3
                      go_upto_region 19 with fail
                      go_region_held3 (fun W : World => W.cell? ⟨g, o + k * 4 + 2, none⟩ = some (.slice uqT unT ucT) ∧ W.cell? ⟨g, o + k * 4 + 3, none⟩ = some (.slice uqN unN ucN)) (first | (with_reducible assumption) | (with_reducible exact z7) | (exact z7) | go_keep) (first | (go_at_call 17; refine (H17.out _ BW6.out.2).mono ?_; rintro e w7 ⟨p7, c7, rfl, h7, z7⟩))
                      all_goals
                        clear z7
                        go_wp2_with fail
                        exact ⟨⟨p7, c7, k + 1, rfl, rfl, by simp, by omega, h7.out⟩, by simp only [intOf]; omega⟩
                    · have hEa' : decide (E2 ≤ E) = false := decide_eq_false hEa
                      have HP : Hid (SlS wr q m c' (slA ((L.take (k + 1)).filter fun u => decide (en now u ≤ E)) S)) := by
                        rw [room_skip (fun u => decide (en now u ≤ E)) hu (decide_eq_false (by unfold en; omega))]
                        exact HK.out.1
                      obtain ⟨up, hup⟩ : ∃ up, u.p = up := ⟨_, rfl⟩
                      rw [hup] at hE2 c1
                      clear hup hu hcb HK c0 c2 c3
                      go_upto_region 18 with fail
                      go_region
                      go_wp2_with fail
                      exact ⟨⟨q, c', k + 1, rfl, rfl, by simp, by omega, HP.out.below (below_drewN (Below.refl _ wr) _), HD.out _⟩, by simp only [intOf]; omega⟩
                  · have hnow' : decide (now < E) = false := decide_eq_false hnow
                    have HP : Hid (SlS wr q m c' (slA ((L.take (k + 1)).filter fun u => decide (en now u ≤ E)) S)) := by
                      rw [room_skip (fun u => decide (en now u ≤ E)) hu (decide_eq_false (by have := en_gt now u; omega))]
                      exact HK.out.1
                    clear hu hcb HK c0 c2 c3 c1 hE2
                    go_upto_region 18 with fail
                    go_quiet (fail)
                    go_wp2_with fail
                    exact ⟨⟨q, c', k + 1, rfl, rfl, by simp, by omega, HP.out.below (below_drewN (Below.refl _ wr) _), HD.out _⟩, by simp only [intOf]; omega⟩
    · have q2 := m1'.out h0
      subst q2
      have g0 : ¬ (en' : Int) = 0 := by omega
      have g1 : ((en' : Int) == 0) = false := by simpa using g0
      have g2 : ((en' : Int) != 0) = true := i64_ne g0
      clear m1' m2'
      go_enter Try.func6, Try.ntmps6
      go_upto_region 1 with fail
      generalize w.alloc (.cells #[.int .i64 now, .int .i64 rt, .slice qH nH cH, .slice qL nL cL] 24) = W at *
      go_upto_region 3 with (first | (go_at_call 7; refine (H7.out _).mono ?_; rintro e w1 ⟨rfl, b1⟩; have B1 : Hid (Below w.heap.size w w1 ∧ Below W.heap.size W w1) := ⟨below_from B0.out b1 B0.out.size, b1⟩; have z1 := at_below b1 (Nat.le_refl _) HN.out; have c0 := Lib.cell_of_heap z1 0; have c1 := Lib.cell_of_heap z1 1; have c2 := Lib.cell_of_heap z1 2; have c3 := Lib.cell_of_heap z1 3; clear z1 b1) | (go_at_call 8; refine (H8.out _ B1.out.1).mono ?_; rintro e w2 ⟨rfl, b2⟩))
      have B2 : Hid (Below w.heap.size w w2 ∧ w2.heap[w.heap.size]? = some (.cells #[.int .i64 now, .int .i64 rt, .slice qH nH cH, .slice qL nL cL] 24)) := ⟨below_from B1.out.1 b2.out B1.out.1.size, at_below (below_from B1.out.2 b2.out B1.out.2.size) (Nat.le_refl _) HN.out⟩
      clear c0 c1 c2 c3 b2 B1
      have c0 := Lib.cell_of_heap B2.out.2 0
      have c2 := Lib.cell_of_heap B2.out.2 2
      go_wp2_with (go_at_call 9; refine (H9.out _ B2.out.1).mono ?_; rintro e w3 ⟨p3, k3, c3, rfl, n3, h3⟩; obtain rfl : 0 = k3 := n3; have B3 : Hid (Below w.heap.size w w3) := below_from B2.out.1 h3.out.2 B2.out.1.size; clear c0 c2)
      go_ret
      exact ⟨rfl, B3.out⟩
end Go.Proofs.Ytjgibngnjlciaaa
