/-
  After.
-/
import Derived.Test.YtjgibngnjlciaaaGreatMa
import Derived.Deep.RegionWith
namespace Go.Proofs.YtjgibngnjlciaaaGreat
open Go.RowKit Go.Maps Go.WideMaps Go.Sort

set_option maxHeartbeats 8000000 in
set_option maxRecDepth 100000 in
theorem reckS (T : List V) (N : List (List UInt8)) (S : List Sl) (q q2 r : Option Addr) (n c n2 c2 m d : Nat) (w : World) (hA : Arg w q r n c m d T S) (hN : NA w q2 N) (hNs : ∀ s ∈ N, s.length ≤ 281474976710656) (hn2 : N.length = n2) (n1 : n ≤ 1000000) (m1 : m ≤ 1000000) (k1 : n2 ≤ 1000000) :
    Calls Tryz.prog 55 #[.func (.func 26) #[] #[], .slice q n c, .slice q2 n2 c2, .slice r m d] w (MovP subR w T N S) := by
  have H21 : Hid (Calls Tryz.prog 22 #[.slice q n c, .slice r m d] w (ChkP w T S)) := check_any T S q r n c m d w hA.t hA.s hA.h hA.n hA.m n1 m1
  have HA : Hid (Arg w q r n c m d T S ∧ NA w q2 N ∧ (∀ s ∈ N, s.length ≤ 281474976710656) ∧ N.length = n2) := ⟨hA, hN, hNs, hn2⟩
  clear hA hN hNs hn2
  by_cases hc : chk T S = 0
  · have HK : Hid (chk T S = 0) := hc
    clear hc
    go_enter Tryz.func55, Tryz.ntmps55
    go_upto_region 2 with (go_at_call 22; refine H21.out.mono ?_; rintro e w1 ⟨mv, rfl, h1⟩)
    rw [HK.out]
    obtain ⟨mb, rfl, hmb⟩ := h1.out.1 HK.out
    have B1 : Hid (Below w.heap.size w w1 ∧ MpS w1 mb S) := ⟨h1.out.2, hmb⟩
    clear h1 H21 hmb
    by_cases hl : n2 = n
    · subst hl
      have H44 : Hid (Calls Tryz.prog 71 #[.slice q2 n2 c2, .map (some mb)] w1 fun e w' => e = .returned (.bool (knB N S)) ∧ Hid (Below w1.heap.size w1 w')) := known_any w1 q2 n2 c2 mb N S (HA.out.2.1.below B1.out.1) HA.out.2.2.1 HA.out.2.2.2 B1.out.2 k1
      cases hkn : knB N S with
      | false =>
        rw [hkn] at H44
        have HR : Hid (movR subR T N S = (3, [])) := by
          show _ = _
          unfold movR
          rw [if_pos HK.out, if_pos (HA.out.2.2.2.trans HA.out.1.n.symm), if_neg (by rw [hkn]; decide)]
        go_wp2_with (go_at_call 71; refine H44.out.mono ?_; rintro e w2 ⟨rfl, b2⟩)
        go_ret2
        unfold MovP
        rw [HR.out]
        exact ⟨none, 0, 0, rfl, rfl, GRow.nil _ _ _ _ _, below_from B1.out.1 b2.out B1.out.1.size⟩
      | true =>
        rw [hkn] at H44
        have HR : Hid ((∀ S', movG subR (T.zip N) S = some S' → movR subR T N S = (0, S')) ∧ (movG subR (T.zip N) S = none → movR subR T N S = (7, []))) := movR_go HK.out (HA.out.2.2.2.trans HA.out.1.n.symm) hkn
        have HKN : Hid (knB N S = true) := hkn
        clear hkn
        go_upto_region 8 with (go_at_call 71; refine H44.out.mono ?_; rintro e w2 ⟨rfl, b2⟩)
        have B2 : Hid (Below w.heap.size w w2 ∧ MpS w2 mb S) := ⟨below_from B1.out.1 b2.out B1.out.1.size, B1.out.2.keep (b2.out.block mb B1.out.2.lt)⟩
        clear B1 b2 H44
        have H22 : Hid (Calls Tryz.prog 23 #[.slice r m d] w2 fun e w' => ∃ p c', e = .returned (.slice p m c') ∧ Hid (SR w2.heap.size w' (.slice p m c') S ∧ Below w2.heap.size w2 w')) := clone_slots w2 r m d S (HA.out.1.s.below B2.out.1) HA.out.1.m HA.out.1.d m1
        go_upto_region 9 with (go_at_call 23; refine H22.out.mono ?_; rintro e w3 ⟨p, cl, rfl, h3⟩)
        have M0 : Hid (∃ S', Mv w w3 subR T N S p m cl mb 0 S') := ⟨S, rfl, ⟨h3.out.1.1, by
          rcases h3.out.1.2 with q | ⟨g, cap, cur, e1, e2, e3⟩
          · exact .inl q
          · exact .inr ⟨g, cap, cur, e1, by have := B2.out.1.size; omega, e3⟩⟩, B2.out.2.keep (h3.out.2.block mb B2.out.2.lt), below_from B2.out.1 h3.out.2 B2.out.1.size, rfl⟩
        clear H22 h3 B2
        go_wp2_with fail
        go_loopw [39, 11] (fun x y wr => ∃ k : Nat, x = .int .i64 k ∧ y = .int .i64 0 ∧ k ≤ n2 ∧ Hid (∃ S', Mv w wr subR T N S p m cl mb k S')) (fun x _ _ => n2 - (intOf x).toNat)
        case atStart => exact ⟨0, rfl, rfl, Nat.zero_le _, M0.out⟩
        case round =>
          clear M0
          obtain ⟨k, rfl, rfl, hk, HI⟩ := hrel
          by_cases h0 : k < n2
          · have hlt' : (k : Int) < (n2 : Int) := by omega
            have hd : decide ((k : Int) < (n2 : Int)) = true := decide_eq_true hlt'
            obtain ⟨S', hM⟩ := HI.out
            have HM : Hid (Mv w wr subR T N S p m cl mb k S') := hM
            clear HI hM
            obtain ⟨v, hv⟩ : ∃ v, T[k]? = some v := ⟨_, List.getElem?_eq_getElem (by have := HA.out.1.n; omega)⟩
            obtain ⟨nm, hnm⟩ : ∃ nm, N[k]? = some nm := ⟨_, List.getElem?_eq_getElem (by have := HA.out.2.2.2; omega)⟩
            obtain ⟨j, hj⟩ : ∃ j, plc nm S = some j := by
              have := List.all_eq_true.1 HKN.out nm (List.mem_of_getElem? hnm)
              cases hp : plc nm S with
              | none => rw [hp] at this; cases this
              | some j => exact ⟨j, rfl⟩
            have hjm : j < m := by
              obtain ⟨a, ha, _⟩ := plc_some hj
              have := (List.getElem?_eq_some_iff.1 ha).1
              have := HA.out.1.m
              omega
            have hjm' : (j : Int) < (m : Int) := by omega
            have hml : S'.length = m := HM.out.l.len.symm
            obtain ⟨s, hs⟩ : ∃ s, S'[j]? = some s := ⟨_, List.getElem?_eq_getElem (by omega)⟩
            obtain ⟨gl, rfl, -⟩ := HM.out.l.at slC_len hs
            have HX : Hid (T[k]? = some v ∧ N[k]? = some nm ∧ plc nm S = some j ∧ S'[j]? = some s) := ⟨hv, hnm, hj, hs⟩
            obtain ⟨ga, oa, rfl, x0, x1, x2, x3⟩ := TA.at (HA.out.1.t.below HM.out.b) hv
            obtain ⟨gn, on, rfl, xn⟩ := NA.at (HA.out.2.1.below HM.out.b) hnm
            have hnl := HA.out.2.2.1 nm (List.mem_of_getElem? hnm)
            clear hv hnm hj hs hml
            obtain ⟨va, vb, vc, vd⟩ := v
            obtain ⟨sn, ⟨sa, sb, sc, sd⟩⟩ := s
            simp only [] at x0 x1 x2 x3
            have ba : Below wr.heap.size wr (wr.alloc (.cells #[.int .i64 va, .int .i64 vb, .int .i64 vc, .int .i64 vd] 40)) := (Below.refl _ wr).alloc (Nat.le_refl _) _
            have HM2 : Hid (Mv w (wr.alloc (.cells #[.int .i64 va, .int .i64 vb, .int .i64 vc, .int .i64 vd] 40)) subR T N S (some ⟨gl, 0, none⟩) m cl mb k S') := HM.out.below ba
            have xn2 := cell_below xn ba
            obtain ⟨z0, z1, z2, z3, -⟩ := cells4 (new0 (w := wr) (o := .cells #[.int .i64 va, .int .i64 vb, .int .i64 vc, .int .i64 vd] 40))
            go_upto_region 12 with fail
            obtain ⟨bx, hbx⟩ : ∃ bx, bx = wr.heap.size := ⟨_, rfl⟩
            rw [← hbx] at z0 z1 z2 z3 ⊢
            clear hbx x0 x1 x2 x3 ba HM xn
            generalize wr.alloc (.cells #[.int .i64 va, .int .i64 vb, .int .i64 vc, .int .i64 vd] 40) = W5 at *
            have hlk := HM2.out.m.get nm hnl HX.out.2.2.1
            go_upto_region 13 with fail
            clear hlk xn2
            have HC : Hid (∀ w, Calls Tryz.prog 26 #[.agg #[.int .i64 sa, .int .i64 sb, .int .i64 sc, .int .i64 sd], .agg #[.int .i64 va, .int .i64 vb, .int .i64 vc, .int .i64 vd]] w fun e w' => e = ansV (subR ⟨sa, sb, sc, sd⟩ ⟨va, vb, vc, vd⟩) ∧ Below w.heap.size w w') := fun w => sub_any sa sb sc sd va vb vc vd w
            obtain ⟨rs, hrs⟩ : ∃ rs, rs = subR ⟨sa, sb, sc, sd⟩ ⟨va, vb, vc, vd⟩ := ⟨_, rfl⟩
            have HRS : Hid (subR ⟨sa, sb, sc, sd⟩ ⟨va, vb, vc, vd⟩ = rs) := hrs.symm
            rw [← hrs] at HC
            clear hrs
            obtain ⟨⟨da, db, dc, dd⟩, er⟩ := rs
            have H25 : Hid (∀ w, Calls Tryz.prog 26 #[.agg #[.int .i64 sa, .int .i64 sb, .int .i64 sc, .int .i64 sd], .agg #[.int .i64 va, .int .i64 vb, .int .i64 vc, .int .i64 vd]] w fun e w' => e = .returned (.tuple #[.agg #[.int .i64 da, .int .i64 db, .int .i64 dc, .int .i64 dd], .int .i64 (er : Int)]) ∧ Hid (Below w.heap.size w w')) := HC.out
            clear HC
            obtain ⟨⟨-, y1, y2, y3, y4⟩, -⟩ := grow_at HM2.out.l HX.out.2.2.2
            simp only [] at y1 y2 y3 y4
            have KC : Hid (∀ W, Below W5.heap.size W5 W → (W.cell? ⟨gl, j * 5 + 1, none⟩ = some (.int .i64 sa) ∧ W.cell? ⟨gl, j * 5 + 1 + 1, none⟩ = some (.int .i64 sb) ∧ W.cell? ⟨gl, j * 5 + 1 + 2, none⟩ = some (.int .i64 sc) ∧ W.cell? ⟨gl, j * 5 + 1 + 3, none⟩ = some (.int .i64 sd)) ∧ gl < W.heap.size ∧ ∀ i, W.frozen? ⟨gl, i, none⟩ = false) := fun W b => by
              have := HM2.out.l.below b
              obtain ⟨⟨-, y⟩, f⟩ := grow_at this HX.out.2.2.2
              exact ⟨y, this.lt rfl, f⟩
            have HE : Hid (∀ W', Below W5.drew.heap.size W5.drew W' → Below W5.heap.size W5 W') := fun W' b => below_from (Below.refl _ W5).drew b (Nat.le_refl _)
            go_region_with (go_at_call 26; refine (H25.out _).mono ?_; rintro e w6 ⟨rfl, b6⟩; have b7 : Hid (Below W5.heap.size W5 w6) := HE.out _ b6.out; have zz := KC.out _ b7.out; have q1 := zz.1.1; have q2 := zz.1.2.1; have q3 := zz.1.2.2.1; have q4 := zz.1.2.2.2; have f0 := zz.2.1; have f1 := zz.2.2 (j * 5 + 1); have f2 := zz.2.2 (j * 5 + 1 + 1); have f3 := zz.2.2 (j * 5 + 1 + 2); have f4 := zz.2.2 (j * 5 + 1 + 3); clear zz)
            all_goals
              obtain ⟨W6, hW6⟩ : ∃ W6, W6 = (((w6.setCell ⟨gl, j * 5 + 1, none⟩ (.int .i64 da)).setCell ⟨gl, j * 5 + 1 + 1, none⟩ (.int .i64 db)).setCell ⟨gl, j * 5 + 1 + 2, none⟩ (.int .i64 dc)).setCell ⟨gl, j * 5 + 1 + 3, none⟩ (.int .i64 dd) := ⟨_, rfl⟩
              rw [← hW6]
              by_cases he : er = 0
              · subst he
                have HM3 : Hid (Mv w W6 subR T N S (some ⟨gl, 0, none⟩) m cl mb (k + 1) (S'.set j ⟨sn, ⟨da, db, dc, dd⟩⟩)) := by
                  have := (HM2.out.below b7.out).wrote HX.out.1 HX.out.2.1 HX.out.2.2.1 HX.out.2.2.2 (by rw [HRS.out])
                  rw [HRS.out] at this
                  rw [hW6]
                  exact this
                clear hW6 q1 q2 q3 q4 f0 f1 f2 f3 f4 KC HE H25 HM2 y1 y2 y3 y4 z0 z1 z2 z3 b6 b7
                go_wp2_with fail
                exact ⟨⟨k + 1, by simp, by simp, by omega, _, HM3.out⟩, by simp only [intOf]; omega⟩
              · have e1 : ¬ (er : Int) = 0 := by omega
                have e2 : ((er : Int) == 0) = false := by rw [beq_eq_false_iff_ne]; exact e1
                have HR2 : Hid (movR subR T N S = (7, []) ∧ Below w.heap.size w W6) := by
                  refine ⟨?_, ?_⟩
                  · rw [HR.out.2 (mov_none HM2.out.f HM2.out.n HX.out.1 HX.out.2.1 HX.out.2.2.1 HX.out.2.2.2 (by rw [HRS.out]; exact he))]
                  · have b8 := below_from HM2.out.b b7.out HM2.out.b.size
                    have hg := HM2.out.l.ge (g := gl) rfl
                    rw [hW6]
                    exact (((b8.setCell hg _).setCell hg _).setCell hg _).setCell hg _
                clear hW6 q1 q2 q3 q4 f0 f1 f2 f3 f4 KC HE H25 HM2 y1 y2 y3 y4 z0 z1 z2 z3 b6 b7
                go_wp2_with fail
                go_ret2
                unfold MovP
                rw [HR2.out.1]
                exact ⟨none, 0, 0, rfl, rfl, GRow.nil _ _ _ _ _, HR2.out.2⟩
          · have hlt' : ¬ (k : Int) < (n2 : Int) := by omega
            have hd : decide ((k : Int) < (n2 : Int)) = false := decide_eq_false hlt'
            obtain ⟨S', hM⟩ := HI.out
            have HM : Hid (SR w.heap.size wr (.slice p m cl) S' ∧ Below w.heap.size w wr ∧ movR subR T N S = (0, S') ∧ S'.length = m ∧ Short S') := by
              refine ⟨hM.l, hM.b, ?_, hM.l.len.symm, short_nm HA.out.1.h hM.n⟩
              have h1 := hM.f
              rw [List.take_of_length_le (by rw [List.length_zip]; have := HA.out.1.n; omega)] at h1
              exact HR.out.1 _ h1
            clear HI hM HR
            go_wp2_with fail
            clear hlt' hd
            go_loopw [70] (fun x wr => ∃ k : Nat, x = .int .i64 k ∧ k ≤ m ∧ Hid (SR w.heap.size wr (.slice p m cl) S' ∧ Below w.heap.size w wr)) (fun x _ => m - (intOf x).toNat)
            case atStart => exact ⟨0, rfl, Nat.zero_le _, HM.out.1, HM.out.2.1⟩
            case round =>
              obtain ⟨i, rfl, hi, HI⟩ := hrel
              by_cases h0 : i < m
              · have hlt' : (i : Int) < (m : Int) := by omega
                have hd : decide ((i : Int) < (m : Int)) = true := decide_eq_true hlt'
                obtain ⟨s, hs⟩ : ∃ s, S'[i]? = some s := ⟨_, List.getElem?_eq_getElem (by have := HM.out.2.2.2.1; omega)⟩
                obtain ⟨gl, rfl, -⟩ := HI.out.1.at slC_len hs
                obtain ⟨⟨y0, -⟩, -⟩ := grow_at HI.out.1 hs
                have H26 : Hid (∀ w, Calls Tryz.prog 27 #[.string ⟨⟨s.nm⟩⟩] w fun e w' => e = .returned (.string ⟨⟨s.nm⟩⟩) ∧ Hid (Below w.heap.size w w')) := fun w => clone_any s.nm w (HM.out.2.2.2.2 s (List.mem_of_getElem? hs))
                have KC : Hid (∀ W, Below wr.heap.size wr W → W.cell? ⟨gl, i * 5, none⟩ = some (.string ⟨⟨s.nm⟩⟩) ∧ W.frozen? ⟨gl, i * 5, none⟩ = false ∧ gl < W.heap.size ∧ SR w.heap.size (W.setCell ⟨gl, i * 5, none⟩ (.string ⟨⟨s.nm⟩⟩)) (.slice (some ⟨gl, 0, none⟩) m cl) S' ∧ Below w.heap.size w (W.setCell ⟨gl, i * 5, none⟩ (.string ⟨⟨s.nm⟩⟩))) := fun W b => by
                  have h1 := HI.out.1.below b
                  obtain ⟨⟨y, -⟩, f⟩ := grow_at h1 hs
                  have h2 := grow_name s.nm h1 hs
                  obtain ⟨hl, e⟩ := List.getElem?_eq_some_iff.1 hs
                  have e3 : S'.set i ⟨s.nm, s.v⟩ = S' := by
                    subst e
                    exact List.set_getElem_self hl
                  rw [e3] at h2
                  exact ⟨y, f _, h1.lt rfl, h2, (below_from HI.out.2 b HI.out.2.size).setCell (h1.ge (g := gl) rfl) _⟩
                clear hs
                obtain ⟨sn, sv⟩ := s
                simp only [] at y0 H26 KC
                clear HI
                go_wp2_with (go_at_call 27; refine (H26.out _).mono ?_; rintro e w7 ⟨rfl, b7⟩; obtain ⟨v1, v2, v3, v4, v5⟩ := KC.out _ b7.out; have HL : Hid (SR w.heap.size (w7.setCell ⟨gl, i * 5, none⟩ (.string ⟨⟨sn⟩⟩)) (.slice (some ⟨gl, 0, none⟩) m cl) S' ∧ Below w.heap.size w (w7.setCell ⟨gl, i * 5, none⟩ (.string ⟨⟨sn⟩⟩))) := ⟨v4, v5⟩; clear v4 v5)
                exact ⟨⟨i + 1, by simp, by omega, HL.out.1, HL.out.2⟩, by simp only [intOf]; omega⟩
              · have hlt' : ¬ (i : Int) < (m : Int) := by omega
                have hd : decide ((i : Int) < (m : Int)) = false := decide_eq_false hlt'
                go_wp2_with fail
                go_ret2
                unfold MovP
                rw [HM.out.2.2.1]
                exact ⟨p, m, cl, rfl, HM.out.2.2.2.1, HI.out.1, HI.out.2⟩
    · have e1 : ¬ (n2 : Int) = (n : Int) := by omega
      have e2 : ((n2 : Int) == (n : Int)) = false := by rw [beq_eq_false_iff_ne]; exact e1
      have HR : Hid (movR subR T N S = (2, [])) := by
        show _ = _
        unfold movR
        rw [if_pos HK.out, if_neg (by have := HA.out.2.2.2; have := HA.out.1.n; omega)]
      go_wp2_with fail
      go_ret2
      unfold MovP
      rw [HR.out]
      exact ⟨none, 0, 0, rfl, rfl, GRow.nil _ _ _ _ _, B1.out.1⟩
  · have HR : Hid (movR subR T N S = (chk T S, [])) := by show _ = _; unfold movR; rw [if_neg hc]
    have e1 : ¬ ((chk T S : Nat) : Int) = 0 := by omega
    have e2 : (((chk T S : Nat) : Int) == 0) = false := by rw [beq_eq_false_iff_ne]; exact e1
    go_enter Tryz.func55, Tryz.ntmps55
    go_wp2_with (go_at_call 22; refine H21.out.mono ?_; rintro e w1 ⟨mv, rfl, h1⟩)
    go_ret2
    unfold MovP
    rw [HR.out]
    exact ⟨none, 0, 0, rfl, rfl, GRow.nil _ _ _ _ _, h1.out.2⟩
end Go.Proofs.YtjgibngnjlciaaaGreat
