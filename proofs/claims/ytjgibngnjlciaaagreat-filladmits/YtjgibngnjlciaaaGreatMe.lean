/-
  The document's Moved, as After.
-/
import Derived.Test.YtjgibngnjlciaaaGreatMd
import Derived.Test.YtjgibngnjlciaaaGreatVb
namespace Go.Proofs.YtjgibngnjlciaaaGreat
open Go.RowKit Go.Maps Go.WideMaps Go.Sort

set_option maxHeartbeats 8000000 in
set_option maxRecDepth 100000 in
theorem rmovS (T : List V) (N : List (List UInt8)) (S : List Sl) (q q2 r : Option Addr) (n c n2 c2 m d : Nat) (w : World) (hA : Arg w q r n c m d T S) (hN : NA w q2 N) (hn2 : N.length = n2) (n1 : n ≤ 1000000) (m1 : m ≤ 1000000) (k1 : n2 ≤ 1000000) :
    Calls Tryz.prog 16 #[.slice q n c, .slice q2 n2 c2, .slice r m d, .bool false] w (RMovP subR w T N S) := by
  have H27 : Hid (Calls Tryz.prog 32 #[.slice q n c, .slice r m d] w fun e w' => e = .returned (.int .i64 (chk T S : Nat)) ∧ Hid (Below w.heap.size w w')) := wrong_any T S q r n c m d w hA.t hA.s hA.n hA.m n1 m1
  have HA : Hid (Arg w q r n c m d T S ∧ NA w q2 N ∧ N.length = n2) := ⟨hA, hN, hn2⟩
  clear hA hN hn2
  by_cases hc : chk T S = 0
  · have HK : Hid (chk T S = 0) := hc
    rw [hc] at H27
    clear hc
    go_enter Tryz.func16, Tryz.ntmps16
    go_upto_region 2 with (go_at_call 32; refine H27.out.mono ?_; rintro e w1 ⟨rfl, h1⟩)
    have B1 : Hid (Below w.heap.size w w1) := h1.out
    clear h1 H27
    by_cases hl : n2 = n
    · subst hl
      go_wp2_with fail
      go_loopw [11] (fun x wr => ∃ k : Nat, x = .int .i64 k ∧ k ≤ n2 ∧ Hid ((N.take k).all (fun n => (plc n S).isSome) = true ∧ Below w.heap.size w wr)) (fun x _ => n2 - (intOf x).toNat)
      case atStart => exact ⟨0, rfl, Nat.zero_le _, rfl, B1.out⟩
      case round =>
        clear B1
        obtain ⟨k, rfl, hk, HI⟩ := hrel
        by_cases h0 : k < n2
        · have hlt' : (k : Int) < (n2 : Int) := by omega
          have hd : decide ((k : Int) < (n2 : Int)) = true := decide_eq_true hlt'
          obtain ⟨s, hx⟩ : ∃ s, N[k]? = some s := ⟨_, List.getElem?_eq_getElem (by have := HA.out.2.2; omega)⟩
          have H32 := find_any wr r m d S s (HA.out.1.s.below HI.out.2) HA.out.1.m m1
          obtain ⟨g, o, rfl, c0⟩ := NA.at (HA.out.2.1.below HI.out.2) hx
          have HX : Hid (N[k]? = some s) := hx
          clear hx
          cases hp : plc s S with
          | none =>
            unfold fndI at H32
            rw [hp] at H32
            have H32' : Hid (Calls Tryz.prog 37 #[.slice r m d, .string ⟨⟨s⟩⟩] wr fun e w' => e = .returned (.int .i64 (-1)) ∧ Hid (Below wr.heap.size wr w')) := H32
            have HR : Hid (movR subR T N S = (3, [])) := by
              show _ = _
              unfold movR
              rw [if_pos HK.out, if_pos (HA.out.2.2.trans HA.out.1.n.symm), if_neg (by rw [show knB N S = false from all_bad (fun n => (plc n S).isSome) HX.out (by rw [hp]; decide)]; decide)]
            clear H32
            go_wp2_with (go_at_call 37; refine H32'.out.mono ?_; rintro e w2 ⟨rfl, b2⟩)
            go_ret2
            unfold RMovP
            rw [HR.out]
            exact ⟨none, 0, 0, rfl, rfl, GRow.nil _ _ _ _ _, below_from HI.out.2 b2.out HI.out.2.size⟩
          | some j =>
            unfold fndI at H32
            rw [hp] at H32
            have H32' : Hid (Calls Tryz.prog 37 #[.slice r m d, .string ⟨⟨s⟩⟩] wr fun e w' => e = .returned (.int .i64 (j : Int)) ∧ Hid (Below wr.heap.size wr w')) := H32
            have j1 : ¬ (j : Int) < 0 := by omega
            have HP : Hid ((plc s S).isSome = true) := by show _ = _; rw [hp]; rfl
            clear H32 hp
            go_wp2_with (go_at_call 37; refine H32'.out.mono ?_; rintro e w2 ⟨rfl, b2⟩)
            exact ⟨⟨k + 1, by simp, by omega, all_take (fun n => (plc n S).isSome) HX.out HI.out.1 HP.out, below_from HI.out.2 b2.out HI.out.2.size⟩, by simp only [intOf]; omega⟩
        · have hlt' : ¬ (k : Int) < (n2 : Int) := by omega
          have hd : decide ((k : Int) < (n2 : Int)) = false := decide_eq_false hlt'
          have HKN : Hid (knB N S = true) := by
            have := HI.out.1
            rw [List.take_of_length_le (by rw [HA.out.2.2]; omega)] at this
            exact this
          have B1 : Hid (Below w.heap.size w wr) := HI.out.2
          have HR : Hid ((∀ S', movG subR (T.zip N) S = some S' → movR subR T N S = (0, S')) ∧ (movG subR (T.zip N) S = none → movR subR T N S = (7, []))) := movR_go HK.out (HA.out.2.2.trans HA.out.1.n.symm) HKN.out
          have H28 : Hid (Calls Tryz.prog 33 #[.slice r m d] wr fun e w' => ∃ p c', e = .returned (.slice p m c') ∧ Hid (RR wr.heap.size w' (.slice p m c') S ∧ Below wr.heap.size wr w')) := copy_any wr r m d S (HA.out.1.s.below B1.out) HA.out.1.m HA.out.1.d m1
          clear HI
          go_wp2_with (go_at_call 33; refine H28.out.mono ?_; rintro e w3 ⟨p, cl, rfl, h3⟩)
          have M0 : Hid (∃ S', Mr w w3 subR T N S p m cl 0 S') := ⟨S, rfl, ⟨h3.out.1.1, by
            rcases h3.out.1.2 with q | ⟨g, cap, cur, e1, e2, e3⟩
            · exact .inl q
            · exact .inr ⟨g, cap, cur, e1, by have := B1.out.size; omega, e3⟩⟩, below_from B1.out h3.out.2 B1.out.size, rfl⟩
          clear H28 h3 B1 hlt' hd h0 hk
          go_loopw [13] (fun x wr => ∃ k : Nat, x = .int .i64 k ∧ k ≤ n2 ∧ Hid (∃ S', Mr w wr subR T N S p m cl k S')) (fun x _ => n2 - (intOf x).toNat)
          case atStart => exact ⟨0, rfl, Nat.zero_le _, M0.out⟩
          case round =>
            clear M0
            obtain ⟨k, rfl, hk, HI⟩ := hrel
            by_cases h0 : k < n2
            · have hlt' : (k : Int) < (n2 : Int) := by omega
              have hd : decide ((k : Int) < (n2 : Int)) = true := decide_eq_true hlt'
              obtain ⟨S', hM⟩ := HI.out
              have HM0 : Hid (Mr w wr subR T N S p m cl k S') := hM
              clear HI hM
              obtain ⟨v, hv⟩ : ∃ v, T[k]? = some v := ⟨_, List.getElem?_eq_getElem (by have := HA.out.1.n; omega)⟩
              obtain ⟨nm, hnm⟩ : ∃ nm, N[k]? = some nm := ⟨_, List.getElem?_eq_getElem (by have := HA.out.2.2; omega)⟩
              obtain ⟨j, hj⟩ : ∃ j, plc nm S = some j := by
                have := List.all_eq_true.1 HKN.out nm (List.mem_of_getElem? hnm)
                cases hp : plc nm S with
                | none => rw [hp] at this; cases this
                | some j => exact ⟨j, rfl⟩
              have hjm : j < m := by
                obtain ⟨a, ha, _⟩ := plc_some hj
                have := (List.getElem?_eq_some_iff.1 ha).1
                have := HA.out.1.m
                omega
              have hjm' : (j : Int) < (m : Int) := by omega
              have hml : S'.length = m := HM0.out.l.len.symm
              obtain ⟨s, hs⟩ : ∃ s, S'[j]? = some s := ⟨_, List.getElem?_eq_getElem (by omega)⟩
              obtain ⟨gl, rfl, -⟩ := HM0.out.l.at slC_len hs
              have H32 := find_any wr (some ⟨gl, 0, none⟩) m cl S' nm (rr_sa HM0.out.l) hml m1
              unfold fndI at H32
              rw [plc_nm HM0.out.n, hj] at H32
              have H32' : Hid (Calls Tryz.prog 37 #[.slice (some ⟨gl, 0, none⟩) m cl, .string ⟨⟨nm⟩⟩] wr fun e w' => e = .returned (.int .i64 (j : Int)) ∧ Hid (Below wr.heap.size wr w')) := H32
              have HX : Hid (T[k]? = some v ∧ N[k]? = some nm ∧ plc nm S = some j ∧ S'[j]? = some s) := ⟨hv, hnm, hj, hs⟩
              obtain ⟨ga, oa, rfl, -⟩ := TA.at HA.out.1.t hv
              obtain ⟨gn, on, rfl, xn⟩ := NA.at (HA.out.2.1.below HM0.out.b) hnm
              clear hv hnm hj hs hml H32
              obtain ⟨va, vb, vc, vd⟩ := v
              obtain ⟨sn, ⟨sa, sb, sc, sd⟩⟩ := s
              go_upto_region 16 with (go_at_call 37; refine H32'.out.mono ?_; rintro e W5 ⟨rfl, b5⟩)
              have HM : Hid (Mr w W5 subR T N S (some ⟨gl, 0, none⟩) m cl k S') := HM0.out.below b5.out
              clear HM0 b5 H32' xn
              obtain ⟨rs, hrs⟩ : ∃ rs, rs = subR ⟨sa, sb, sc, sd⟩ ⟨va, vb, vc, vd⟩ := ⟨_, rfl⟩
              have HRS0 : Hid (subR ⟨sa, sb, sc, sd⟩ ⟨va, vb, vc, vd⟩ = rs) := hrs.symm
              have HC := fun w => rsub_any sa sb sc sd va vb vc vd w
              rw [← hrs] at HC
              clear hrs
              obtain ⟨⟨da, db, dc, dd⟩, er⟩ := rs
              have H30 : Hid (∀ w, Calls Tryz.prog 36 #[.agg #[.int .i64 sa, .int .i64 sb, .int .i64 sc, .int .i64 sd], .agg #[.int .i64 va, .int .i64 vb, .int .i64 vc, .int .i64 vd]] w fun e w' => e = .returned (.tuple #[.agg #[.int .i64 da, .int .i64 db, .int .i64 dc, .int .i64 dd], .int .i64 (er : Int)]) ∧ Hid (Below w.heap.size w w')) := HC
              clear HC
              obtain ⟨ga', oa', e', x0, x1, x2, x3⟩ := TA.at (HA.out.1.t.below HM.out.b) HX.out.1
              cases e'
              obtain ⟨⟨-, y1, y2, y3, y4⟩, -⟩ := grow_at HM.out.l HX.out.2.2.2
              simp only [] at x0 x1 x2 x3 y1 y2 y3 y4
              have KC : Hid (∀ W, Below W5.heap.size W5 W → (W.cell? ⟨gl, j * 5 + 1, none⟩ = some (.int .i64 sa) ∧ W.cell? ⟨gl, j * 5 + 1 + 1, none⟩ = some (.int .i64 sb) ∧ W.cell? ⟨gl, j * 5 + 1 + 2, none⟩ = some (.int .i64 sc) ∧ W.cell? ⟨gl, j * 5 + 1 + 3, none⟩ = some (.int .i64 sd)) ∧ (W.cell? ⟨ga, oa + k * 4, none⟩ = some (.int .i64 va) ∧ W.cell? ⟨ga, oa + k * 4 + 1, none⟩ = some (.int .i64 vb) ∧ W.cell? ⟨ga, oa + k * 4 + 2, none⟩ = some (.int .i64 vc) ∧ W.cell? ⟨ga, oa + k * 4 + 3, none⟩ = some (.int .i64 vd))) := fun W b => ⟨⟨cell_below y1 b, cell_below y2 b, cell_below y3 b, cell_below y4 b⟩, cell_below x0 b, cell_below x1 b, cell_below x2 b, cell_below x3 b⟩
              have ngf : ¬ ga = W5.heap.size := by have := block_lt_of_cell x0; simp only [] at this; omega
              have ngg : ¬ gl = W5.heap.size := by have := block_lt_of_cell y1; simp only [] at this; omega
              have ngh : ¬ W5.heap.size = ga := fun e => ngf e.symm
              have ngi : ¬ W5.heap.size = gl := fun e => ngg e.symm
              clear y1 y2 y3 y4 x0 x1 x2 x3
              have zz := KC.out W5 (Below.refl _ _)
              have zd := KC.out (W5.drewN 1) (below_drewN (Below.refl _ _) 1)
              have HE : Hid (∀ W', Below (W5.alloc (.cells #[.int .i64 0, .int .i64 0, .int .i64 0, .int .i64 0] 40)).drew.heap.size (W5.alloc (.cells #[.int .i64 0, .int .i64 0, .int .i64 0, .int .i64 0] 40)).drew W' → Below W5.heap.size W5 W') := fun W' b => by
                have b1 : Below W5.heap.size W5 (W5.alloc (.cells #[.int .i64 0, .int .i64 0, .int .i64 0, .int .i64 0] 40)).drew := ((Below.refl _ W5).alloc (Nat.le_refl _) _).drew
                exact b1.trans (b.mono b1.size)
              have HNW : Hid (∀ W', Below (W5.alloc (.cells #[.int .i64 0, .int .i64 0, .int .i64 0, .int .i64 0] 40)).drew.heap.size (W5.alloc (.cells #[.int .i64 0, .int .i64 0, .int .i64 0, .int .i64 0] 40)).drew W' → W'.heap[W5.heap.size]? = some (.cells #[.int .i64 0, .int .i64 0, .int .i64 0, .int .i64 0] 40 (0, 0))) := fun W' b => at_below b (Nat.le_refl _) (at_drew new0)
              go_region_held3 (fun W : World => (W.cell? ⟨gl, j * 5 + 1, none⟩ = some (.int .i64 sa) ∧ W.cell? ⟨gl, j * 5 + 1 + 1, none⟩ = some (.int .i64 sb) ∧ W.cell? ⟨gl, j * 5 + 1 + 2, none⟩ = some (.int .i64 sc) ∧ W.cell? ⟨gl, j * 5 + 1 + 3, none⟩ = some (.int .i64 sd)) ∧ (W.cell? ⟨ga, oa + k * 4, none⟩ = some (.int .i64 va) ∧ W.cell? ⟨ga, oa + k * 4 + 1, none⟩ = some (.int .i64 vb) ∧ W.cell? ⟨ga, oa + k * 4 + 2, none⟩ = some (.int .i64 vc) ∧ W.cell? ⟨ga, oa + k * 4 + 3, none⟩ = some (.int .i64 vd))) (first | (with_reducible assumption) | (exact zd) | (exact zz) | go_keep) (first
                | (go_at_call 36; refine (H30.out _).mono ?_; rintro e w6 ⟨rfl, b6⟩; have b7 : Hid (Below W5.heap.size W5 w6) := (by first | exact ((Below.refl _ W5).drew).trans b6.out | exact HE.out _ b6.out); have zz := KC.out _ b7.out; try (have n4 := HNW.out _ b6.out; obtain ⟨q0, q1, q2, q3, f0, f1, f2, f3, -, -⟩ := cells4 n4)))
              · obtain ⟨bx, hbx⟩ : ∃ bx, bx = w6.heap.size := ⟨_, rfl⟩
                have hbk := new0 (w := w6) (o := .cells #[.int .i64 da, .int .i64 db, .int .i64 dc, .int .i64 dd] 40 (0, 0))
                have HB7 : Hid (Below W5.heap.size W5 (w6.alloc (.cells #[.int .i64 da, .int .i64 db, .int .i64 dc, .int .i64 dd] 40 (0, 0)))) := b7.out.alloc b7.out.size _
                have hbx5 : W5.heap.size ≤ bx := by have := b7.out.size; omega
                rw [← hbx] at hbk ⊢
                obtain ⟨bc0, bc1, bc2, bc3, -⟩ := cells4 hbk
                generalize w6.alloc (.cells #[.int .i64 da, .int .i64 db, .int .i64 dc, .int .i64 dd] 40 (0, 0)) = W7 at *
                clear hbx zz zd ngf ngg ngh ngi HE HNW KC H30 b6 b7
                have HRS : Hid (subR ⟨sa, sb, sc, sd⟩ ⟨va, vb, vc, vd⟩ = (⟨da, db, dc, dd⟩, er)) := HRS0.out
                have HM9 : Hid (Mr w W7 subR T N S (some ⟨gl, 0, none⟩) m cl k S') := HM.out.below HB7.out
                clear HM
                generalize W7 = W9 at *
                have zc := grow_at HM9.out.l HX.out.2.2.2
                have s1 := zc.1.2.1
                have s2 := zc.1.2.2.1
                have s3 := zc.1.2.2.2.1
                have s4 := zc.1.2.2.2.2
                have f1 := zc.2 (j * 5 + 1)
                have f2 := zc.2 (j * 5 + 1 + 1)
                have f3 := zc.2 (j * 5 + 1 + 2)
                have f4 := zc.2 (j * 5 + 1 + 3)
                have fl : gl < W9.heap.size := HM9.out.l.lt rfl
                clear zc
                simp only [] at s1 s2 s3 s4
                by_cases he : er = 0
                · subst he
                  have KN := HM9.out.wrote HX.out.1 HX.out.2.1 HX.out.2.2.1 HX.out.2.2.2 (by rw [HRS.out])
                  rw [HRS.out] at KN
                  have HM10 : Hid (Mr w ((((W9.setCell ⟨gl, j * 5 + 1, none⟩ (.int .i64 da)).setCell ⟨gl, j * 5 + 1 + 1, none⟩ (.int .i64 db)).setCell ⟨gl, j * 5 + 1 + 2, none⟩ (.int .i64 dc)).setCell ⟨gl, j * 5 + 1 + 3, none⟩ (.int .i64 dd)) subR T N S (some ⟨gl, 0, none⟩) m cl (k + 1) (S'.set j ⟨sn, ⟨da, db, dc, dd⟩⟩)) := KN
                  clear KN HM9
                  go_wp2_with fail
                  exact ⟨⟨k + 1, by simp, by omega, _, HM10.out⟩, by simp only [intOf]; omega⟩
                · have e1 : ¬ (er : Int) = 0 := by omega
                  have e2 : ((er : Int) == 0) = false := by rw [beq_eq_false_iff_ne]; exact e1
                  have HR2 : Hid (movR subR T N S = (7, []) ∧ Below w.heap.size w W9) := by
                    refine ⟨?_, HM9.out.b⟩
                    rw [HR.out.2 (mov_none HM9.out.f HM9.out.n HX.out.1 HX.out.2.1 HX.out.2.2.1 HX.out.2.2.2 (by rw [HRS.out]; exact he))]
                  clear HM9
                  go_wp2_with fail
                  go_ret2
                  unfold RMovP
                  rw [HR2.out.1]
                  exact ⟨none, 0, 0, rfl, rfl, GRow.nil _ _ _ _ _, HR2.out.2⟩
              · obtain ⟨bx, hbx⟩ : ∃ bx, bx = W5.heap.size := ⟨_, rfl⟩
                have hbk := at_set4 (v0 := .int .i64 da) (v1 := .int .i64 db) (v2 := .int .i64 dc) (v3 := .int .i64 dd) n4
                have HB7 : Hid (Below W5.heap.size W5 ((((w6.setCell ⟨W5.heap.size, 0, none⟩ (.int .i64 da)).setCell ⟨W5.heap.size, 1, none⟩ (.int .i64 db)).setCell ⟨W5.heap.size, 2, none⟩ (.int .i64 dc)).setCell ⟨W5.heap.size, 3, none⟩ (.int .i64 dd))) := (((b7.out.setCell (Nat.le_refl _) _).setCell (Nat.le_refl _) _).setCell (Nat.le_refl _) _).setCell (Nat.le_refl _) _
                have hbx5 : W5.heap.size ≤ bx := by omega
                generalize ((((w6.setCell ⟨W5.heap.size, 0, none⟩ (.int .i64 da)).setCell ⟨W5.heap.size, 1, none⟩ (.int .i64 db)).setCell ⟨W5.heap.size, 2, none⟩ (.int .i64 dc)).setCell ⟨W5.heap.size, 3, none⟩ (.int .i64 dd)) = W7 at *
                rw [← hbx] at hbk ⊢
                obtain ⟨bc0, bc1, bc2, bc3, -⟩ := cells4 hbk
                clear hbx zz zd ngf ngg ngh ngi HE HNW KC H30 b6 b7 n4 q0 q1 q2 q3 f0 f1 f2 f3
                have HRS : Hid (subR ⟨sa, sb, sc, sd⟩ ⟨va, vb, vc, vd⟩ = (⟨da, db, dc, dd⟩, er)) := HRS0.out
                have HM9 : Hid (Mr w W7 subR T N S (some ⟨gl, 0, none⟩) m cl k S') := HM.out.below HB7.out
                clear HM
                generalize W7 = W9 at *
                have zc := grow_at HM9.out.l HX.out.2.2.2
                have s1 := zc.1.2.1
                have s2 := zc.1.2.2.1
                have s3 := zc.1.2.2.2.1
                have s4 := zc.1.2.2.2.2
                have f1 := zc.2 (j * 5 + 1)
                have f2 := zc.2 (j * 5 + 1 + 1)
                have f3 := zc.2 (j * 5 + 1 + 2)
                have f4 := zc.2 (j * 5 + 1 + 3)
                have fl : gl < W9.heap.size := HM9.out.l.lt rfl
                clear zc
                simp only [] at s1 s2 s3 s4
                by_cases he : er = 0
                · subst he
                  have KN := HM9.out.wrote HX.out.1 HX.out.2.1 HX.out.2.2.1 HX.out.2.2.2 (by rw [HRS.out])
                  rw [HRS.out] at KN
                  have HM10 : Hid (Mr w ((((W9.setCell ⟨gl, j * 5 + 1, none⟩ (.int .i64 da)).setCell ⟨gl, j * 5 + 1 + 1, none⟩ (.int .i64 db)).setCell ⟨gl, j * 5 + 1 + 2, none⟩ (.int .i64 dc)).setCell ⟨gl, j * 5 + 1 + 3, none⟩ (.int .i64 dd)) subR T N S (some ⟨gl, 0, none⟩) m cl (k + 1) (S'.set j ⟨sn, ⟨da, db, dc, dd⟩⟩)) := KN
                  clear KN HM9
                  go_wp2_with fail
                  exact ⟨⟨k + 1, by simp, by omega, _, HM10.out⟩, by simp only [intOf]; omega⟩
                · have e1 : ¬ (er : Int) = 0 := by omega
                  have e2 : ((er : Int) == 0) = false := by rw [beq_eq_false_iff_ne]; exact e1
                  have HR2 : Hid (movR subR T N S = (7, []) ∧ Below w.heap.size w W9) := by
                    refine ⟨?_, HM9.out.b⟩
                    rw [HR.out.2 (mov_none HM9.out.f HM9.out.n HX.out.1 HX.out.2.1 HX.out.2.2.1 HX.out.2.2.2 (by rw [HRS.out]; exact he))]
                  clear HM9
                  go_wp2_with fail
                  go_ret2
                  unfold RMovP
                  rw [HR2.out.1]
                  exact ⟨none, 0, 0, rfl, rfl, GRow.nil _ _ _ _ _, HR2.out.2⟩
            · have hlt' : ¬ (k : Int) < (n2 : Int) := by omega
              have hd : decide ((k : Int) < (n2 : Int)) = false := decide_eq_false hlt'
              obtain ⟨S', hM⟩ := HI.out
              have HM : Hid (RR w.heap.size wr (.slice p m cl) S' ∧ Below w.heap.size w wr ∧ movR subR T N S = (0, S') ∧ S'.length = m) := by
                refine ⟨hM.l, hM.b, ?_, hM.l.len.symm⟩
                have h1 := hM.f
                rw [List.take_of_length_le (by rw [List.length_zip]; have := HA.out.1.n; omega)] at h1
                exact HR.out.1 _ h1
              clear HI hM HR
              go_wp2_with fail
              go_ret2
              unfold RMovP
              rw [HM.out.2.2.1]
              exact ⟨p, m, cl, rfl, HM.out.2.2.2, HM.out.1, HM.out.2.1⟩
    · have e1 : ¬ (n2 : Int) = (n : Int) := by omega
      have e2 : ((n2 : Int) == (n : Int)) = false := by rw [beq_eq_false_iff_ne]; exact e1
      have HR : Hid (movR subR T N S = (2, [])) := by
        show _ = _
        unfold movR
        rw [if_pos HK.out, if_neg (by have := HA.out.2.2; have := HA.out.1.n; omega)]
      go_wp2_with fail
      go_ret2
      unfold RMovP
      rw [HR.out]
      exact ⟨none, 0, 0, rfl, rfl, GRow.nil _ _ _ _ _, B1.out⟩
  · have HR : Hid (movR subR T N S = (chk T S, [])) := by show _ = _; unfold movR; rw [if_neg hc]
    have e1 : ¬ ((chk T S : Nat) : Int) = 0 := by omega
    have e2 : (((chk T S : Nat) : Int) == 0) = false := by rw [beq_eq_false_iff_ne]; exact e1
    go_enter Tryz.func16, Tryz.ntmps16
    go_wp2_with (go_at_call 32; refine H27.out.mono ?_; rintro e w1 ⟨rfl, h1⟩)
    go_ret2
    unfold RMovP
    rw [HR.out]
    exact ⟨none, 0, 0, rfl, rfl, GRow.nil _ _ _ _ _, h1.out⟩
end Go.Proofs.YtjgibngnjlciaaaGreat
