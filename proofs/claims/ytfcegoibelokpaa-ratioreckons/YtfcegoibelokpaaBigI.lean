/-
  The contract of the reference's divided.
-/
import Derived.Test.YtfcegoibelokpaaBigH
namespace Go.Proofs.Ytfcegoibelokpaa
open Go.RowKit Big

theorem results_two_rows {P : Program} {fn : Func} {p q : Tmp} {ty : TypeId} (h : fn.results = #[.cell p ty, .cell q ty]) (tmps : Array Value) (w : World) (g g' : Nat) (t : TypeId) (cs cs' : Array Value) (fr fr' : Nat × Nat) (d : TypeDesc)
    (hp : tmps.getD p undef = .pointer (some ⟨g, 0, none⟩)) (hq : tmps.getD q undef = .pointer (some ⟨g', 0, none⟩)) (hg : w.heap[g]? = some (.cells cs t fr)) (hg' : w.heap[g']? = some (.cells cs' t fr'))
    (hu : P.underlying ty = some d) (hd : (match d with | .struct _ | .array _ _ => true | _ => false) = true) (hi : (P.info? ty).map (·.size) = some cs.size) (hi' : (P.info? ty).map (·.size) = some cs'.size) :
    (results fn tmps).run P w = .ok (.tuple #[.agg cs, .agg cs']) w := by
  have hp' : tmps[p]?.getD undef = .pointer (some ⟨g, 0, none⟩) := by simpa using hp
  have hq' : tmps[q]?.getD undef = .pointer (some ⟨g', 0, none⟩) := by simpa using hq
  simp [results, h, hp', hq', asAddr, run_loadVar_row w g t ty cs fr d hg hu hd hi, run_loadVar_row w g' t ty cs' fr' d hg' hu hd hi']

theorem rst_of {a b : W} (hb : 0 < b.toNat) (k : Nat) : (BitVec.ofNat 256 (rst a b k)).toNat = rst a b k := by
  rw [BitVec.toNat_ofNat, Nat.mod_eq_of_lt (Nat.lt_trans (rst_lt hb k) b.isLt)]
theorem dwn_of {a b : W} (hb : 0 < b.toNat) (hb2 : b.toNat ≤ 2 ^ 255) (j : Nat) : (BitVec.ofNat 256 (dwn a b j)).toNat = dwn a b j := by
  rw [BitVec.toNat_ofNat, Nat.mod_eq_of_lt (Nat.lt_of_lt_of_le (dwn_lt hb j) (by rw [show (2 : Nat) ^ 256 = 2 * 2 ^ 255 from rfl]; omega))]

set_option maxHeartbeats 4000000 in
set_option maxRecDepth 100000 in
theorem divided_any (a b : W) (w : World) (hb0 : 0 < b.toNat) (hb2 : b.toNat ≤ 2 ^ 255) :
    Calls Try.prog 43 #[.agg (bigR a), .agg (bigR b)] w fun e w' => e = .returned (.tuple #[.agg (bigR (BitVec.ofNat 256 (a.toNat / b.toNat))), .agg (bigR (BitVec.ofNat 256 (a.toNat % b.toNat)))]) ∧ Below w.heap.size w w' := by
  have hz := zero48
  have HU : Hid (∀ (x : W) (w : World), Calls Try.prog 39 #[.agg (bigR x)] w fun e w' => e = .returned (.agg (bigR (x <<< 1))) ∧ Below w.heap.size w w') := fun x w => up_any x w
  have HC : Hid (∀ (x y : W) (w : World), Calls Try.prog 24 #[.agg (bigR x), .agg (bigR y)] w fun e w' => e = .returned (.int .i64 (Big.cmp x y)) ∧ Below w.heap.size w w') := fun x y w => bigcmp_any x y w
  have HM : Hid (∀ (x y : W) (w : World), Calls Try.prog 33 #[.agg (bigR x), .agg (bigR y)] w fun e w' => e = .returned (.agg (bigR (x - y))) ∧ Below w.heap.size w w') := fun x y w => minus_any x y w
  have HB2 : Hid (b.toNat ≤ 2 ^ 255) := hb2
  clear hb2
  generalize hQ : BitVec.ofNat 256 (a.toNat / b.toNat) = q at *
  have HQ : Hid (BitVec.ofNat 256 (a.toNat / b.toNat) = q) := hQ
  clear hQ
  go_enter Try.func43, Try.ntmps43
  go_wp2_with fail
  go_loopw [8] (fun iv wr => ∃ k : Nat, iv = .int .i64 ((k : Int) - 1) ∧ k ≤ 256 ∧ Row wr w.heap.size (bigR a) ∧ Row wr (w.heap.size + 1) (bigR b) ∧ Row wr (w.heap.size + 1 + 1) (bigR 0) ∧ Row wr (w.heap.size + 1 + 1 + 1) (bigR 0) ∧ Row wr (w.heap.size + 1 + 1 + 1 + 1) (highs q k) ∧ Row wr (w.heap.size + 1 + 1 + 1 + 1 + 1) (bigR (BitVec.ofNat 256 (rst a b k))) ∧ Below w.heap.size w wr) (fun iv _ => (intOf iv + 1).toNat)
  case atStart =>
    refine ⟨256, rfl, by omega, ?_, ?_, ?_, ?_, ?_, ?_, ?_⟩
    · exact (((((row_new w _ _ rfl).alloc _).alloc _).alloc _).alloc _).alloc _
    · exact ((((row_new _ _ _ (by simp)).alloc _).alloc _).alloc _).alloc _
    · exact (((row_new _ _ _ (by simp)).alloc _).alloc _).alloc _
    · exact ((row_new _ _ _ (by simp)).alloc _).alloc _
    · rw [highs_none]; exact (row_new _ _ _ (by simp)).alloc _
    · rw [rst_top]; exact row_new _ _ _ (by simp)
    · go_grown
  case round =>
    obtain ⟨k, rfl, hk, r0, r1, r2, r3, r4, r5, hbl⟩ := hrel
    have HB : Hid (Below w.heap.size w wr) := hbl
    clear hbl hz
    by_cases h0 : k = 0
    · subst h0
      rw [highs_all] at r4
      rw [rst_end] at r5
      generalize hrr : BitVec.ofNat 256 (a.toNat % b.toNat) = rr at *
      have HRR : Hid (BitVec.ofNat 256 (a.toNat % b.toNat) = rr) := hrr
      clear hrr
      clear r0 r1 HU HC HM
      go_upto_region 10 with fail
      have sz4 := size48 q
      have sz5 := size48 rr
      have on4 := one48 q
      have on5 := one48 rr
      have ez4 : (bigR 0).size = (bigR q).size := by rw [bigR_size, bigR_size]
      have ez5 : (bigR 0).size = (bigR rr).size := by rw [bigR_size, bigR_size]
      have HC4 : ∃ C4, C4 = bigR q := ⟨_, rfl⟩
      have HC5 : ∃ C5, C5 = bigR rr := ⟨_, rfl⟩
      have HC0 : ∃ C0, C0 = bigR 0 := ⟨_, rfl⟩
      obtain ⟨C4, hC4⟩ := HC4
      obtain ⟨C5, hC5⟩ := HC5
      obtain ⟨C0, hC0⟩ := HC0
      rw [← hC4] at r4 sz4 on4 ez4
      rw [← hC5] at r5 sz5 on5 ez5
      rw [← hC0] at r2 r3 ez4 ez5
      have HCC : Hid (C4 = bigR q ∧ C5 = bigR rr) := ⟨hC4, hC5⟩
      clear hC4 hC5 hC0
      refine wp_region_any (by kernel_rfl) ?_
      have r3' := row_other (c' := C4) (g' := w.heap.size + 1 + 1) r3 (by omega)
      have r5' := row_other (c' := C4) (g' := w.heap.size + 1 + 1) r5 (by omega)
      have F4 : Row ((wr.setRow (w.heap.size + 1 + 1) C4).setRow (w.heap.size + 1 + 1 + 1) C5) (w.heap.size + 1 + 1) C4 := row_other (Row.setRow r2) (by omega)
      have F5 : Row ((wr.setRow (w.heap.size + 1 + 1) C4).setRow (w.heap.size + 1 + 1 + 1) C5) (w.heap.size + 1 + 1 + 1) C5 := Row.setRow r3'
      have FB := below_setRow (g := w.heap.size + 1 + 1 + 1) (c := C5) (below_setRow (g := w.heap.size + 1 + 1) (c := C4) HB.out (by omega)) (by omega)
      refine wpAny_ready (rs := [0, 1]) (by kernel_rfl) (by simp) (AllReady.cons rfl ?_ (AllReady.cons rfl ?_ AllReady.nil))
      · intro K hK
        rw [if_pos (by rfl)]
        refine wp_load_row 48 (.tmp 6) rfl (w.heap.size + 1 + 1 + 1 + 1) rfl 48 (C4) (0, 0) _ (by exact r4) Try.underlying48 rfl sz4 (hK _ _ ?_)
        clear hK K
        refine wpAny_ready (rs := [1, 2]) (by kernel_rfl) (by simp) (AllReady.cons rfl ?_ (AllReady.cons rfl ?_ AllReady.nil))
        · intro K hK
          rw [if_pos (by rfl)]
          refine wp_load_row 48 (.tmp 7) rfl (w.heap.size + 1 + 1 + 1 + 1 + 1) rfl 48 (C5) (0, 0) _ (by exact r5) Try.underlying48 rfl sz5 (hK _ _ ?_)
          clear hK K
          refine wpAny_ready (rs := [2]) (by kernel_rfl) (by simp) (AllReady.cons rfl ?_ AllReady.nil)
          intro K hK
          rw [if_pos (by rfl)]
          refine wp_store_row 48 (.tmp 4) (.tmp 28) rfl (w.heap.size + 1 + 1) (C4) rfl rfl 48 C0 (by exact r2) sz4 ez4 on4 (hK _ _ ?_)
          clear hK K
          refine wpAny_ready (rs := [3]) (by kernel_rfl) (by simp) (AllReady.cons rfl ?_ AllReady.nil)
          intro K hK
          rw [if_pos (by rfl)]
          refine wp_store_row 48 (.tmp 5) (.tmp 29) rfl (w.heap.size + 1 + 1 + 1) (C5) rfl rfl 48 C0 (by exact r3') sz5 ez5 on5 (hK _ _ ?_)
          clear hK K
          refine wpAny_done (by kernel_rfl) ?_ _
          go_wp2_with fail
          refine bodyPost_ret (results_two_rows Try.results43 _ _ (w.heap.size + 1 + 1) (w.heap.size + 1 + 1 + 1) 48 C4 C5 (0, 0) (0, 0) _ rfl rfl (by exact F4) (by exact F5) Try.underlying48 rfl sz4 sz5) rfl ?_
          exact ⟨by rw [HCC.out.1, HCC.out.2, HRR.out], ⟨FB.os, FB.tape, FB.output, FB.size, FB.block⟩⟩
        · intro K hK
          rw [if_pos (by rfl)]
          refine wp_store_row 48 (.tmp 4) (.tmp 28) rfl (w.heap.size + 1 + 1) (C4) rfl rfl 48 C0 (by exact r2) sz4 ez4 on4 (hK _ _ ?_)
          clear hK K
          refine wpAny_ready (rs := [1]) (by kernel_rfl) (by simp) (AllReady.cons rfl ?_ AllReady.nil)
          intro K hK
          rw [if_pos (by rfl)]
          refine wp_load_row 48 (.tmp 7) rfl (w.heap.size + 1 + 1 + 1 + 1 + 1) rfl 48 (C5) (0, 0) _ (by exact r5') Try.underlying48 rfl sz5 (hK _ _ ?_)
          clear hK K
          refine wpAny_ready (rs := [3]) (by kernel_rfl) (by simp) (AllReady.cons rfl ?_ AllReady.nil)
          intro K hK
          rw [if_pos (by rfl)]
          refine wp_store_row 48 (.tmp 5) (.tmp 29) rfl (w.heap.size + 1 + 1 + 1) (C5) rfl rfl 48 C0 (by exact r3') sz5 ez5 on5 (hK _ _ ?_)
          clear hK K
          refine wpAny_done (by kernel_rfl) ?_ _
          go_wp2_with fail
          refine bodyPost_ret (results_two_rows Try.results43 _ _ (w.heap.size + 1 + 1) (w.heap.size + 1 + 1 + 1) 48 C4 C5 (0, 0) (0, 0) _ rfl rfl (by exact F4) (by exact F5) Try.underlying48 rfl sz4 sz5) rfl ?_
          exact ⟨by rw [HCC.out.1, HCC.out.2, HRR.out], ⟨FB.os, FB.tape, FB.output, FB.size, FB.block⟩⟩
      · intro K hK
        rw [if_pos (by rfl)]
        refine wp_load_row 48 (.tmp 7) rfl (w.heap.size + 1 + 1 + 1 + 1 + 1) rfl 48 (C5) (0, 0) _ (by exact r5) Try.underlying48 rfl sz5 (hK _ _ ?_)
        clear hK K
        refine wpAny_ready (rs := [0]) (by kernel_rfl) (by simp) (AllReady.cons rfl ?_ AllReady.nil)
        intro K hK
        rw [if_pos (by rfl)]
        refine wp_load_row 48 (.tmp 6) rfl (w.heap.size + 1 + 1 + 1 + 1) rfl 48 (C4) (0, 0) _ (by exact r4) Try.underlying48 rfl sz4 (hK _ _ ?_)
        clear hK K
        refine wpAny_ready (rs := [2]) (by kernel_rfl) (by simp) (AllReady.cons rfl ?_ AllReady.nil)
        intro K hK
        rw [if_pos (by rfl)]
        refine wp_store_row 48 (.tmp 4) (.tmp 28) rfl (w.heap.size + 1 + 1) (C4) rfl rfl 48 C0 (by exact r2) sz4 ez4 on4 (hK _ _ ?_)
        clear hK K
        refine wpAny_ready (rs := [3]) (by kernel_rfl) (by simp) (AllReady.cons rfl ?_ AllReady.nil)
        intro K hK
        rw [if_pos (by rfl)]
        refine wp_store_row 48 (.tmp 5) (.tmp 29) rfl (w.heap.size + 1 + 1 + 1) (C5) rfl rfl 48 C0 (by exact r3') sz5 ez5 on5 (hK _ _ ?_)
        clear hK K
        refine wpAny_done (by kernel_rfl) ?_ _
        go_wp2_with fail
        refine bodyPost_ret (results_two_rows Try.results43 _ _ (w.heap.size + 1 + 1) (w.heap.size + 1 + 1 + 1) 48 C4 C5 (0, 0) (0, 0) _ rfl rfl (by exact F4) (by exact F5) Try.underlying48 rfl sz4 sz5) rfl ?_
        exact ⟨by rw [HCC.out.1, HCC.out.2, HRR.out], ⟨FB.os, FB.tape, FB.output, FB.size, FB.block⟩⟩
    · obtain ⟨j, rfl⟩ : ∃ j, k = j + 1 := ⟨k - 1, by omega⟩
      have hji : (j : Int) < 256 := by omega
      have ej : ((j + 1 : Nat) : Int) - 1 = (j : Int) := by omega
      rw [ej]
      have HL : Hid ((bigR (BitVec.ofNat 256 (rst a b (j + 1)) <<< 1)).setIfInBounds 0 (.bool (a.getLsbD j)) = bigR (BitVec.ofNat 256 (dwn a b j))) := by
        have := low_set (BitVec.ofNat 256 (rst a b (j + 1))) (a.getLsbD j)
        rw [rst_of hb0] at this
        exact this
      have HD : Hid ((BitVec.ofNat 256 (dwn a b j)).toNat = dwn a b j) := dwn_of hb0 HB2.out j
      have HS : Hid (rst a b j = if b.toNat ≤ dwn a b j then dwn a b j - b.toNat else dwn a b j) := rst_step hb0 j
      have HT : Hid (q.getLsbD j = decide (b.toNat ≤ dwn a b j)) := by
        rw [← HQ.out, BitVec.getLsbD_ofNat, quo_bit hb0]
        have : decide (j < 256) = true := decide_eq_true (by omega)
        rw [this, Bool.true_and]
        exact (rfl : decide (b.toNat ≤ dwn a b j) = decide (b.toNat ≤ dwn a b j))
      generalize hR : BitVec.ofNat 256 (rst a b (j + 1)) = R at *
      go_upto_region 5 with fail
      go_upto_region 6 with (first | refine wpList_load_row rfl 48 _ rfl (w.heap.size + 1 + 1 + 1 + 1 + 1) rfl 48 (bigR R) (0, 0) _ r5 Try.underlying48 rfl (size48 _) ?_ | (go_at_call 39; refine (HU.out _ _).mono ?_))
      rintro e w1 ⟨rfl, b1⟩
      have p0 := Row.later r0 b1 (Row.lt r0)
      have p1 := Row.later r1 b1 (Row.lt r1)
      have p2 := Row.later r2 b1 (Row.lt r2)
      have p3 := Row.later r3 b1 (Row.lt r3)
      have p4 := Row.later r4 b1 (Row.lt r4)
      have p5 := Row.later r5 b1 (Row.lt r5)
      have y1 : Hid (Below w.heap.size w w1) := below_from HB.out b1 HB.out.size
      clear b1 r0 r1 r2 r3 r4 r5 HB
      go_upto_region 6 with (refine wpList_store_row rfl 48 _ _ rfl (w.heap.size + 1 + 1 + 1 + 1 + 1) (bigR (R <<< 1)) rfl rfl 48 (bigR R) p5 (size48 _) (by rw [bigR_size, bigR_size]) (one48 _) ?_)
      have z0 := row_other (c' := bigR (R <<< 1)) (g' := w.heap.size + 1 + 1 + 1 + 1 + 1) p0 (by omega)
      have z1 := row_other (c' := bigR (R <<< 1)) (g' := w.heap.size + 1 + 1 + 1 + 1 + 1) p1 (by omega)
      have z2 := row_other (c' := bigR (R <<< 1)) (g' := w.heap.size + 1 + 1 + 1 + 1 + 1) p2 (by omega)
      have z3 := row_other (c' := bigR (R <<< 1)) (g' := w.heap.size + 1 + 1 + 1 + 1 + 1) p3 (by omega)
      have z4 := row_other (c' := bigR (R <<< 1)) (g' := w.heap.size + 1 + 1 + 1 + 1 + 1) p4 (by omega)
      have z5 := Row.setRow (c' := bigR (R <<< 1)) p5
      have y2 : Hid (Below w.heap.size w (w1.setRow (w.heap.size + 1 + 1 + 1 + 1 + 1) (bigR (R <<< 1)))) := below_setRow y1.out (by omega)
      clear p0 p1 p2 p3 p4 p5 y1
      generalize w1.setRow (w.heap.size + 1 + 1 + 1 + 1 + 1) (bigR (R <<< 1)) = w2 at *
      have c0 := z0.cell j
      rw [bigR_get _ _ (by omega)] at c0
      have c5 := z5.cell 0
      rw [bigR_get _ _ (by omega)] at c5
      have f5 := z5.frozen 0
      generalize a.getLsbD j = pa at *
      go_upto_region 7 with fail
      have v0 := Row.other z0 0 (.bool pa) (show _ ≠ w.heap.size + 1 + 1 + 1 + 1 + 1 by omega)
      have v1 := Row.other z1 0 (.bool pa) (show _ ≠ w.heap.size + 1 + 1 + 1 + 1 + 1 by omega)
      have v2 := Row.other z2 0 (.bool pa) (show _ ≠ w.heap.size + 1 + 1 + 1 + 1 + 1 by omega)
      have v3 := Row.other z3 0 (.bool pa) (show _ ≠ w.heap.size + 1 + 1 + 1 + 1 + 1 by omega)
      have v4 := Row.other z4 0 (.bool pa) (show _ ≠ w.heap.size + 1 + 1 + 1 + 1 + 1 by omega)
      have v5 := Row.set z5 0 (.bool pa)
      rw [HL.out] at v5
      have y3 : Hid (Below w.heap.size w (w2.setCell ⟨w.heap.size + 1 + 1 + 1 + 1 + 1, 0, none⟩ (.bool pa))) := y2.out.setCell (by simp; omega) _
      clear z0 z1 z2 z3 z4 z5 y2 c0 c5 f5
      generalize w2.setCell ⟨w.heap.size + 1 + 1 + 1 + 1 + 1, 0, none⟩ (.bool pa) = w3 at *
      generalize hDD : BitVec.ofNat 256 (dwn a b j) = D at *
      have HG : Hid (Big.cmp D b = if D.toNat < b.toNat then -1 else if b.toNat < D.toNat then 1 else 0) := (rfl : Big.cmp D b = Big.cmp D b)
      by_cases hge : b.toNat ≤ dwn a b j
      · have ho : (0 : Int) ≤ Big.cmp D b := by rw [HG.out, HD.out]; split <;> (try split) <;> omega
        have HC' : Hid (∀ (w : World), Calls Try.prog 24 #[.agg (bigR D), .agg (bigR b)] w fun e w' => e = .returned (.int .i64 (Big.cmp D b)) ∧ Below w.heap.size w w') := fun w => HC.out D b w
        generalize Big.cmp D b = oo at *
        have HE : Hid (D - b = BitVec.ofNat 256 (rst a b j)) := by
          refine (BitVec.eq_of_toNat_eq ?_ : D - b = BitVec.ofNat 256 (rst a b j))
          rw [rst_of hb0, HS.out, if_pos hge, BitVec.toNat_sub_of_le (by rw [BitVec.le_def, HD.out]; exact hge), HD.out]
        clear HC HG
        go_upto_region 8 with (first | refine wpList_load_row rfl 48 _ rfl (w.heap.size + 1 + 1 + 1 + 1 + 1) rfl 48 (bigR D) (0, 0) _ v5 Try.underlying48 rfl (size48 _) ?_ | refine wpList_load_row rfl 48 _ rfl (w.heap.size + 1) rfl 48 (bigR b) (0, 0) _ v1 Try.underlying48 rfl (size48 _) ?_ | (go_at_call 24; refine (HC'.out _).mono ?_))
        rintro e w4 ⟨rfl, b4⟩
        have x0 := Row.later v0 b4 (Row.lt v0)
        have x1 := Row.later v1 b4 (Row.lt v1)
        have x2 := Row.later v2 b4 (Row.lt v2)
        have x3 := Row.later v3 b4 (Row.lt v3)
        have x4 := Row.later v4 b4 (Row.lt v4)
        have x5 := Row.later v5 b4 (Row.lt v5)
        have y4 : Hid (Below w.heap.size w w4) := below_from y3.out b4 y3.out.size
        clear b4 y3 v0 v1 v2 v3 v4 v5
        go_upto_region 8 with fail
        go_upto_region 9 with (first | refine wpList_load_row rfl 48 _ rfl (w.heap.size + 1 + 1 + 1 + 1 + 1) rfl 48 (bigR D) (0, 0) _ x5 Try.underlying48 rfl (size48 _) ?_ | refine wpList_load_row rfl 48 _ rfl (w.heap.size + 1) rfl 48 (bigR b) (0, 0) _ x1 Try.underlying48 rfl (size48 _) ?_ | (go_at_call 33; refine (HM.out _ _ _).mono ?_))
        rintro e w5 ⟨rfl, b5⟩
        have u0 := Row.later x0 b5 (Row.lt x0)
        have u1 := Row.later x1 b5 (Row.lt x1)
        have u2 := Row.later x2 b5 (Row.lt x2)
        have u3 := Row.later x3 b5 (Row.lt x3)
        have u4 := Row.later x4 b5 (Row.lt x4)
        have u5 := Row.later x5 b5 (Row.lt x5)
        have y5 : Hid (Below w.heap.size w w5) := below_from y4.out b5 y4.out.size
        clear b5 y4 x0 x1 x2 x3 x4 x5
        go_upto_region 9 with (refine wpList_store_row rfl 48 _ _ rfl (w.heap.size + 1 + 1 + 1 + 1 + 1) (bigR (D - b)) rfl rfl 48 (bigR D) u5 (size48 _) (by rw [bigR_size, bigR_size]) (one48 _) ?_)
        have z0 := row_other (c' := bigR (D - b)) (g' := w.heap.size + 1 + 1 + 1 + 1 + 1) u0 (by omega)
        have z1 := row_other (c' := bigR (D - b)) (g' := w.heap.size + 1 + 1 + 1 + 1 + 1) u1 (by omega)
        have z2 := row_other (c' := bigR (D - b)) (g' := w.heap.size + 1 + 1 + 1 + 1 + 1) u2 (by omega)
        have z3 := row_other (c' := bigR (D - b)) (g' := w.heap.size + 1 + 1 + 1 + 1 + 1) u3 (by omega)
        have z4 := row_other (c' := bigR (D - b)) (g' := w.heap.size + 1 + 1 + 1 + 1 + 1) u4 (by omega)
        have z5 := Row.setRow (c' := bigR (D - b)) u5
        have y6 : Hid (Below w.heap.size w (w5.setRow (w.heap.size + 1 + 1 + 1 + 1 + 1) (bigR (D - b)))) := below_setRow y5.out (by omega)
        clear u0 u1 u2 u3 u4 u5 y5
        generalize w5.setRow (w.heap.size + 1 + 1 + 1 + 1 + 1) (bigR (D - b)) = w6 at *
        have c4 := z4.cell j
        rw [highs_get _ _ _ (by omega)] at c4
        have f4 := z4.frozen j
        generalize (decide (j + 1 ≤ j) && q.getLsbD j) = qb at c4
        go_wp2_with fail
        refine ⟨⟨j, rfl, by omega, Row.other z0 _ _ (by omega), Row.other z1 _ _ (by omega), Row.other z2 _ _ (by omega), Row.other z3 _ _ (by omega), ?_, ?_, ?_⟩, ?_⟩
        · rw [← highs_set q j (by omega) (by rw [HT.out]; exact decide_eq_true hge)]; exact Row.set z4 j _
        · rw [← HE.out]; exact Row.other z5 _ _ (by omega)
        · exact y6.out.setCell (by simp; omega) _
        · simp only [intOf]; omega
      · have ho : ¬ (0 : Int) ≤ Big.cmp D b := by rw [HG.out, HD.out]; split <;> (try split) <;> omega
        have ho' : decide ((0 : Int) ≤ Big.cmp D b) = false := decide_eq_false ho
        go_wp2_with (first | refine wpList_load_row rfl 48 _ rfl (w.heap.size + 1 + 1 + 1 + 1 + 1) rfl 48 (bigR D) (0, 0) _ v5 Try.underlying48 rfl (size48 _) ?_ | refine wpList_load_row rfl 48 _ rfl (w.heap.size + 1) rfl 48 (bigR b) (0, 0) _ v1 Try.underlying48 rfl (size48 _) ?_ | (go_at_call 24; refine (HC.out _ _ _).mono ?_; rintro e w4 ⟨rfl, b4⟩))
        refine ⟨⟨j, rfl, by omega, Row.later v0 b4 (Row.lt v0), Row.later v1 b4 (Row.lt v1), Row.later v2 b4 (Row.lt v2), Row.later v3 b4 (Row.lt v3), ?_, ?_, below_from y3.out b4 y3.out.size⟩, ?_⟩
        · rw [← highs_skip q j (by rw [HT.out]; exact decide_eq_false hge)]; exact Row.later v4 b4 (Row.lt v4)
        · rw [HS.out, if_neg hge, hDD]; exact Row.later v5 b4 (Row.lt v5)
        · simp only [intOf]; omega

end Go.Proofs.Ytfcegoibelokpaa
