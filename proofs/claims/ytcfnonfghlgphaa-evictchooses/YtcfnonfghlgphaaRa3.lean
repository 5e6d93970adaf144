/-
  The document's Sorted.
-/
import Derived.Test.YtcfnonfghlgphaaRa1
import Derived.Lib.QuietBelow
namespace Go.Proofs.Ytcfnonfghlgphaa
open Go.RowKit Go.Maps Go.WideMaps Go.Sort

theorem wr_frozen {e b : Nat} {W : World} {g n cap : Nat} {E : List Vi} (h : GRow e 5 viC b W (.slice (some ⟨g, 0, none⟩) n cap) E) (i : Nat) : W.frozen? ⟨g, i, none⟩ = false := by
  obtain ⟨cur, hgg⟩ := grow_blk h
  exact fz hgg i
/-- a victim of a row, written -/
theorem grow_vi {e b : Nat} {W : World} {g n c k : Nat} {L : List Vi} {u : Vi} (v : Vi) (h : GRow e 5 viC b W (.slice (some ⟨g, 0, none⟩) n c) L) (hu : L[k]? = some u) :
    GRow e 5 viC b (((((W.setCell ⟨g, k * 5, none⟩ (.int .i64 v.j)).setCell ⟨g, k * 5 + 1, none⟩ (.int .i64 v.p)).setCell ⟨g, k * 5 + 2, none⟩ (.int .i64 v.s)).setCell ⟨g, k * 5 + 3, none⟩ (.slice v.qT v.nT v.cT)).setCell ⟨g, k * 5 + 4, none⟩ (.slice v.qN v.nN v.cN)) (.slice (some ⟨g, 0, none⟩) n c) (L.set k v) := by
  have hk := (List.getElem?_eq_some_iff.1 hu).1
  have at' : ∀ (M : List Vi) (x : Vi), M.length = L.length → (M.set k x)[k]? = some x := fun M x hM => by rw [List.getElem?_set, if_pos rfl, if_pos (by omega)]
  have h1 := grow_cell viC_len (j := 0) (u' := { u with j := v.j }) (x := .int .i64 v.j) h hu (by decide) rfl
  have h2 := grow_cell viC_len (j := 1) (u' := { u with j := v.j, p := v.p }) (x := .int .i64 v.p) h1 (at' L _ rfl) (by decide) rfl
  rw [List.set_set] at h2
  have h3 := grow_cell viC_len (j := 2) (u' := { u with j := v.j, p := v.p, s := v.s }) (x := .int .i64 v.s) h2 (at' L _ rfl) (by decide) rfl
  rw [List.set_set] at h3
  have h4 := grow_cell viC_len (j := 3) (u' := { u with j := v.j, p := v.p, s := v.s, qT := v.qT, nT := v.nT, cT := v.cT }) (x := .slice v.qT v.nT v.cT) h3 (at' L _ rfl) (by decide) rfl
  rw [List.set_set] at h4
  have h5 := grow_cell viC_len (j := 4) (u' := v) (x := .slice v.qN v.nN v.cN) h4 (at' L _ rfl) (by decide) rfl
  rw [List.set_set] at h5
  exact h5
theorem mid_length {α : Type} (l : List α) (y : α) (k : Nat) (hk : k ≤ l.length) : k < (l.take k ++ y :: l.drop k).length := by
  rw [List.length_append, List.length_take, List.length_cons]; omega
theorem set_mid {α : Type} (l : List α) (y f : α) (k : Nat) (hk : k ≤ l.length) : (l.take k ++ y :: l.drop k).set k f = l.take k ++ f :: l.drop k := by
  rw [List.set_append_right _ _ (by rw [List.length_take]; omega), List.length_take, show k - min k l.length = 0 by omega]
  rfl
theorem mid_at {α : Type} (l : List α) (y : α) (k : Nat) (hk : k ≤ l.length) : (l.take k ++ y :: l.drop k)[k]? = some y := by
  rw [List.getElem?_append_right (by rw [List.length_take]; omega), List.length_take, show k - min k l.length = 0 by omega]
  rfl
theorem shift_eq2 {α : Type} {St : List α} {t : Nat} {z : α} (h : St[t]? = some z) : St.take (t + 1) ++ z :: St.drop (t + 1) = St.take t ++ z :: St.drop t := by
  obtain ⟨hl, rfl⟩ := List.getElem?_eq_some_iff.1 h
  rw [List.take_succ_eq_append_getElem hl, List.append_assoc, List.drop_eq_getElem_cons hl]
  rfl
/-- where a victim comes to stand -/
theorem insV_at {x : Vi} {D : List Vi} {k : Nat} (hs : Tu D) (hd : ∀ z ∈ D.drop k, vb x z) (hk : k = 0 ∨ ∃ z, D[k - 1]? = some z ∧ ¬ vb x z) : insV x D = D.take k ++ x :: D.drop k := by
  induction D generalizing k with
  | nil => simp [insV]
  | cons y r ih =>
    have h1 := List.pairwise_cons.1 hs
    cases k with
    | zero =>
      have := hd y (List.mem_cons_self ..)
      unfold insV
      rw [if_pos this]
      rfl
    | succ k =>
      obtain ⟨z, hz, hf⟩ := hk.resolve_left (by omega)
      rw [Nat.add_sub_cancel] at hz
      have hy : ¬ vb x y := fun hq => by
        cases k with
        | zero =>
          have : y = z := by simpa using hz
          rw [this] at hq; exact hf hq
        | succ k => exact hf (vb_trans hq (h1.1 z (List.mem_of_getElem? (i := k) (by simpa using hz))))
      unfold insV
      rw [if_neg hy, List.take_succ_cons, List.drop_succ_cons, List.cons_append]
      congr 1
      refine ih h1.2 (fun z hz => hd z (by simpa using hz)) ?_
      cases k with
      | zero => exact .inl rfl
      | succ k => exact .inr ⟨z, by simpa using hz, hf⟩
/-- while a victim is put in -/
structure So (w W : World) (g n c : Nat) (E : List Vi) : Prop where
  row : WR w.heap.size W (.slice (some ⟨g, 0, none⟩) n c) E
  b : Below w.heap.size w W
section
variable {w W W' : World} {g n c k : Nat} {E : List Vi} {u : Vi}
theorem So.below (h : So w W g n c E) (b : Below W.heap.size W W') : So w W' g n c E := ⟨h.row.below b, below_from h.b b h.b.size⟩
theorem So.set (h : So w W g n c E) (hk : k < E.length) (v : Vi) : So w (((((W.setCell ⟨g, k * 5, none⟩ (.int .i64 v.j)).setCell ⟨g, k * 5 + 1, none⟩ (.int .i64 v.p)).setCell ⟨g, k * 5 + 2, none⟩ (.int .i64 v.s)).setCell ⟨g, k * 5 + 3, none⟩ (.slice v.qT v.nT v.cT)).setCell ⟨g, k * 5 + 4, none⟩ (.slice v.qN v.nN v.cN)) g n c (E.set k v) := by
  have hg := h.row.ge (g := g) rfl
  exact ⟨grow_vi v h.row (List.getElem?_eq_getElem hk), ((((h.b.setCell hg _).setCell hg _).setCell hg _).setCell hg _).setCell hg _⟩
theorem So.at (h : So w W g n c E) (hu : E[k]? = some u) : W.cell? ⟨g, k * 5, none⟩ = some (.int .i64 u.j) ∧ W.cell? ⟨g, k * 5 + 1, none⟩ = some (.int .i64 u.p) ∧ W.cell? ⟨g, k * 5 + 2, none⟩ = some (.int .i64 u.s) ∧ W.cell? ⟨g, k * 5 + 3, none⟩ = some (.slice u.qT u.nT u.cT) ∧ W.cell? ⟨g, k * 5 + 4, none⟩ = some (.slice u.qN u.nN u.cN) := by
  obtain ⟨g', e, hc⟩ := h.row.at viC_len hu
  cases e
  exact ⟨hc 0 _ rfl, hc 1 _ rfl, hc 2 _ rfl, hc 3 _ rfl, hc 4 _ rfl⟩
theorem So.fz (h : So w W g n c E) (i : Nat) : W.frozen? ⟨g, i, none⟩ = false := wr_frozen h.row i
theorem So.lt (h : So w W g n c E) : g < W.heap.size := h.row.lt rfl
end
theorem grown44 {W : World} {f : FuncId} {args : Array Value} {v : Value} (H : Hid (∀ w, Calls Try.prog f args w fun e w' => e = .returned v ∧ RowKit.Below w.heap.size w w')) :
    Hid (∀ d os, Calls Try.prog f args (grow (redrawn W d) os) fun e w'' => e = .returned v ∧ ∃ p : Regrown, w'' = grow (redrawn W p.d) p.os) := fun _ _ => Calls.regrown_of (H.out _)
theorem srt_next {L : List Vi} (hu : Uj L) {i : Nat} {x : Vi} (hx : L[i]? = some x) : insV x (srtV (L.take i)) = srtV (L.take (i + 1)) := by
  have h1 : Uj (L.take (i + 1)) := List.Pairwise.sublist (List.take_sublist _ _) hu
  have h2 : Uj (L.take i) := List.Pairwise.sublist (List.take_sublist _ _) hu
  rw [take_next hx] at h1 ⊢
  refine srt_eq (insV_tu x _ (fun y hy e => ?_) (srtV_tu _ h2)) h1 ((insV_perm x _).trans (((srtV_perm _).cons x).trans (List.perm_append_singleton x _).symm))
  exact (uj_add.1 h1).2 y ((srtV_perm _).mem_iff.1 hy) e.symm
set_option maxHeartbeats 8000000 in
set_option maxRecDepth 100000 in
theorem sorted_any (w : World) (q : Option Addr) (n c : Nat) (L : List Vi) (hl : Hid (L.length = n)) (hn : n ≤ 1000) (hr : Hid (VA w q L)) (hu : Hid (Uj L)) :
    Calls Try.prog 25 #[.slice q n c] w fun e w' => ∃ p c', e = .returned (.slice p n c') ∧ Hid (WR w.heap.size w' (.slice p n c') (srtV L) ∧ Below w.heap.size w w') := by
  go_enter Try.func25, Try.ntmps25
  go_wp2_with fail
  go_loopw [3, 4, 5] (fun v x _ wr => ∃ (i : Nat) (p : Option Addr) (c' : Nat), v = .slice p i c' ∧ x = .int .i64 i ∧ i ≤ n ∧ Hid (WR w.heap.size wr (.slice p i c') (srtV (L.take i)) ∧ Below w.heap.size w wr)) (fun _ x _ _ => n - (intOf x).toNat)
  case atStart => exact ⟨0, none, 0, rfl, rfl, Nat.zero_le _, GRow.nil _ _ _ _ _, Below.refl _ _⟩
  case round =>
    obtain ⟨i, p, c', rfl, rfl, hi, HB⟩ := hrel
    by_cases h0 : i = n
    · subst h0
      go_wp2_with fail
      go_ret
      refine ⟨p, c', rfl, ?_, HB.out.2⟩
      have := HB.out.1
      rwa [List.take_of_length_le (by have := hl.out; omega)] at this
    · have hlt' : (i : Int) < (n : Int) := by omega
      obtain ⟨x, hx⟩ : ∃ x, L[i]? = some x := ⟨L[i]'(by have := hl.out; omega), List.getElem?_eq_getElem _⟩
      obtain ⟨gv, ov, rfl, c0, c1, c2, c3, c4⟩ := VA.at (hr.out.below HB.out.2) hx
      have HX : Hid (L[i]? = some x ∧ insV x (srtV (L.take i)) = srtV (L.take (i + 1)) ∧ i + 1 ≤ n) := ⟨hx, srt_next hu.out hx, by omega⟩
      have HD : Hid (Tu (srtV (L.take i)) ∧ (srtV (L.take i)).length = i) := ⟨srtV_tu _ (List.Pairwise.sublist (List.take_sublist _ _) hu.out), by rw [(srtV_perm _).length_eq, List.length_take]; have := hl.out; omega⟩
      have HV : Hid (∀ w g, w.heap[g]? = some (.cells #[.int .i64 x.j, .int .i64 x.p, .int .i64 x.s, .slice x.qT x.nT x.cT, .slice x.qN x.nN x.cN] 65 (0, 0)) → RowV w g 0 ([x].flatMap viC)) := fun w g h => row_one h rfl
      have HC : Hid (∀ W, Below w.heap.size w W → W.cell? ⟨gv, ov + i * 5, none⟩ = some (.int .i64 x.j) ∧ W.cell? ⟨gv, ov + i * 5 + 1, none⟩ = some (.int .i64 x.p) ∧ W.cell? ⟨gv, ov + i * 5 + 2, none⟩ = some (.int .i64 x.s) ∧ W.cell? ⟨gv, ov + i * 5 + 3, none⟩ = some (.slice x.qT x.nT x.cT) ∧ W.cell? ⟨gv, ov + i * 5 + 4, none⟩ = some (.slice x.qN x.nN x.cN) ∧ gv < W.heap.size) := fun W b => by
        obtain ⟨g', o', e, q0, q1, q2, q3, q4⟩ := VA.at (hr.out.below b) hx
        cases e
        exact ⟨q0, q1, q2, q3, q4, cell_lt q0⟩
      have H44 : Hid (∀ (z : Vi) W, Calls Try.prog 44 #[.agg #[.int .i64 x.j, .int .i64 x.p, .int .i64 x.s, .slice x.qT x.nT x.cT, .slice x.qN x.nN x.cN], .agg #[.int .i64 z.j, .int .i64 z.p, .int .i64 z.s, .slice z.qT z.nT z.cT, .slice z.qN z.nN z.cN]] W fun e w' => e = .returned (.bool (decide (vb x z))) ∧ RowKit.Below W.heap.size W w') := fun z W => vb_any x z W
      have hi1 : i ≤ 1000 := by omega
      clear hx hr hu
      generalize hDD : srtV (L.take i) = D at *
      clear hDD
      go_upto_region 6 with (at_builtin; refine append_g (B := w.heap.size) viC_len viC_one Try.underlying29 info65 rfl (by decide) rfl _ _ rfl p i c' D rfl (HB.out.1.below ((Below.refl _ _).alloc (Nat.le_refl _) _)) (Nat.le_trans HB.out.2.size (by simp)) _ 0 1 1 [x] rfl rfl (HV.out _ _ new0) (by unfold maxLen; omega) (by omega) ?_; intro p3 c3' w3 hr3 hb3)
      have hDl : D.length = i := HD.out.2
      have h3a := hr3
      obtain ⟨g, e3, _⟩ := h3a.at viC_len (i := i) (o := x) (by rw [← hDl]; exact List.getElem?_concat_length)
      subst e3
      have S0 : Hid (So w w3 g (i + 1) c3' (D.take i ++ x :: D.drop i)) := by
        refine ⟨?_, (HB.out.2.alloc HB.out.2.size _).trans hb3⟩
        rw [← hDl, List.take_length, List.drop_length]
        rw [hDl]
        exact hr3
      clear hr3 hb3 h3a HB c0 c1 c2 c3 c4 HV hDl
      go_wp2_with fail
      go_loopw [5] (fun y wr => ∃ k : Nat, y = .int .i64 k ∧ k ≤ i ∧ ∃ z : Vi, Hid (So w wr g (i + 1) c3' (D.take k ++ z :: D.drop k) ∧ ∀ u ∈ D.drop k, vb x u)) (fun y _ => (intOf y).toNat)
      case atStart => exact ⟨i, rfl, Nat.le_refl _, x, S0.out, fun u hu => by
        rw [List.drop_eq_nil_of_le (Nat.le_of_eq HD.out.2)] at hu; cases hu⟩
      case round =>
        clear S0
        obtain ⟨k, rfl, hk, y, HS⟩ := hrel
        have hkl : k ≤ D.length := by have := HD.out.2; omega
        have HKL : Hid (k ≤ D.length) := hkl
        clear hkl
        have hki : (k : Int) < (i : Int) + 1 := by omega
        obtain ⟨c0, c1, c2, c3, c4, hgv⟩ := HC.out wr HS.out.1.b
        have hgl := HS.out.1.lt
        by_cases hk0 : 0 < k
        · obtain ⟨r, hr⟩ : ∃ r, k = r + 1 := ⟨k - 1, by omega⟩
          obtain ⟨z, hz⟩ : ∃ z, D[r]? = some z := ⟨_, List.getElem?_eq_getElem (by have := HKL.out; omega)⟩
          have hzm : (D.take k ++ y :: D.drop k)[r]? = some z := by rw [List.getElem?_append_left (by rw [List.length_take]; have := HKL.out; omega), List.getElem?_take, if_pos (by omega)]; exact hz
          obtain ⟨z0, z1, z2, z3, z4⟩ := HS.out.1.at hzm
          have H44z : Hid (∀ W, Calls Try.prog 44 #[.agg #[.int .i64 x.j, .int .i64 x.p, .int .i64 x.s, .slice x.qT x.nT x.cT, .slice x.qN x.nN x.cN], .agg #[.int .i64 z.j, .int .i64 z.p, .int .i64 z.s, .slice z.qT z.nT z.cT, .slice z.qN z.nN z.cN]] W fun e w' => e = .returned (.bool (decide (vb x z))) ∧ RowKit.Below W.heap.size W w') := H44.out z
          have HZT : Hid (D[r]? = some z ∧ k = r + 1 ∧ (D.take k ++ y :: D.drop k)[r]? = some z) := ⟨hz, hr, hzm⟩
          have g1 : (0 : Int) < (k : Int) := by omega
          have g2 : decide ((0 : Int) < (k : Int)) = true := decide_eq_true g1
          have g2' : decide (0 < k) = true := decide_eq_true hk0
          have g3' : (k : Int) - 1 = (r : Int) := by omega
          have g4 : IntKind.i64.wrap (r : Int) = (r : Int) := by simp [IntKind.wrap, IntKind.bits, IntKind.signed]; omega
          have g5 : (r : Int) < (i : Int) + 1 := by omega
          have g5' : r < i + 1 := by omega
          have g6 : (i : Int) < (n : Int) := hlt'
          clear hz hzm hr
          obtain ⟨bb, hbb⟩ : ∃ bb, bb = decide (vb x z) := ⟨_, rfl⟩
          rw [← hbb] at H44z
          have HBB : Hid (bb = decide (vb x z)) := hbb
          clear hbb
          go_upto_region 7 with fail
          have G44 := grown44 (W := wr) H44z
          have m0 := cell_regrown c0
          have m1 := cell_regrown c1
          have m2 := cell_regrown c2
          have m3 := cell_regrown c3
          have m4 := cell_regrown c4
          have n0 := cell_regrown z0
          have n1 := cell_regrown z1
          have n2 := cell_regrown z2
          have n3 := cell_regrown z3
          have n4 := cell_regrown z4
          refine wp_region_quiet_below (by kernel_rfl) (by kernel_rfl) ?_
          repeat (first | go_big_quiet_step ((go_at_call 44; exact G44.out _ _)) | quiet_step ((go_at_call 44; exact G44.out _ _)))
          refine wpQuiet_nil ?_
          intro _ hw'
          obtain ⟨⟨dq, osq⟩, hw''⟩ := hw'
          subst hw''
          have S7 : Hid (So w (grow (redrawn wr dq) osq) g (i + 1) c3' (D.take k ++ y :: D.drop k)) := HS.out.1.below (below_regrown wr dq osq)
          have HDR : Hid (∀ u ∈ D.drop k, vb x u) := HS.out.2
          clear m0 m1 m2 m3 m4 n0 n1 n2 n3 n4 c0 c1 c2 c3 c4 z0 z1 z2 z3 z4 H44z G44 HS hgl hgv
          generalize grow (redrawn wr dq) osq = W7 at *
          cases bb with
          | true =>
            have hgl := S7.out.lt
            obtain ⟨y0, y1, y2, y3, y4⟩ := S7.out.at (mid_at D y k HKL.out)
            obtain ⟨z0, z1, z2, z3, z4⟩ := S7.out.at HZT.out.2.2
            have f0 := S7.out.fz (k * 5)
            have f1 := S7.out.fz (k * 5 + 1)
            have f2 := S7.out.fz (k * 5 + 2)
            have f3 := S7.out.fz (k * 5 + 3)
            have f4 := S7.out.fz (k * 5 + 4)
            have HE : Hid (So w (((((W7.setCell ⟨g, k * 5, none⟩ (.int .i64 z.j)).setCell ⟨g, k * 5 + 1, none⟩ (.int .i64 z.p)).setCell ⟨g, k * 5 + 2, none⟩ (.int .i64 z.s)).setCell ⟨g, k * 5 + 3, none⟩ (.slice z.qT z.nT z.cT)).setCell ⟨g, k * 5 + 4, none⟩ (.slice z.qN z.nN z.cN)) g (i + 1) c3' (D.take r ++ z :: D.drop r) ∧ ∀ u ∈ D.drop r, vb x u) := by
              have hk' := HZT.out.2.1
              have h1 := S7.out.set (mid_length D y k HKL.out) z
              rw [set_mid D y z k HKL.out] at h1
              refine ⟨by rw [← shift_eq2 HZT.out.1, ← hk']; exact h1, fun v hv => ?_⟩
              obtain ⟨hl, hze⟩ := List.getElem?_eq_some_iff.1 HZT.out.1
              rw [List.drop_eq_getElem_cons hl] at hv
              rcases List.mem_cons.1 hv with rfl | hv
              · rw [hze]; exact of_decide_eq_true HBB.out.symm
              · exact HDR.out v (by rw [hk']; exact hv)
            have HRK : Hid (r ≤ i ∧ r < k) := ⟨by omega, by have := HZT.out.2.1; omega⟩
            clear S7 HDR HBB HZT HX HC H44 HD HKL hk0 g2'
            go_wp2_with fail
            exact ⟨⟨r, rfl, HRK.out.1, z, HE.out⟩, by have := HRK.out.2; simp only [intOf]; omega⟩
          | false =>
            have HK0 : Hid (k = 0 ∨ ∃ z, D[k - 1]? = some z ∧ ¬ vb x z) := .inr ⟨z, by rw [HZT.out.2.1]; exact HZT.out.1, of_decide_eq_false HBB.out.symm⟩
            clear HBB HZT g1 g2 g2' g3' g4 g5 g5' hk0
            obtain ⟨c0, c1, c2, c3, c4, hgv⟩ := HC.out W7 S7.out.b
            have hgl := S7.out.lt
            obtain ⟨y0, y1, y2, y3, y4⟩ := S7.out.at (mid_at D y k HKL.out)
            have f0 := S7.out.fz (k * 5)
            have f1 := S7.out.fz (k * 5 + 1)
            have f2 := S7.out.fz (k * 5 + 2)
            have f3 := S7.out.fz (k * 5 + 3)
            have f4 := S7.out.fz (k * 5 + 4)
            have HE : Hid (So w (((((W7.setCell ⟨g, k * 5, none⟩ (.int .i64 x.j)).setCell ⟨g, k * 5 + 1, none⟩ (.int .i64 x.p)).setCell ⟨g, k * 5 + 2, none⟩ (.int .i64 x.s)).setCell ⟨g, k * 5 + 3, none⟩ (.slice x.qT x.nT x.cT)).setCell ⟨g, k * 5 + 4, none⟩ (.slice x.qN x.nN x.cN)) g (i + 1) c3' (srtV (L.take (i + 1)))) := by
              have h1 := S7.out.set (mid_length D y k HKL.out) x
              rw [set_mid D y x k HKL.out, ← insV_at HD.out.1 HDR.out HK0.out, HX.out.2.1] at h1
              exact h1
            have HI1 : Hid (i + 1 ≤ n) := HX.out.2.2
            clear S7 HDR HK0 HX HC H44 HD HKL
            go_wp2_with fail
            exact ⟨⟨i + 1, some ⟨g, 0, none⟩, c3', rfl, by simp, HI1.out, HE.out.row, HE.out.b⟩, by simp only [intOf]; omega⟩
        · have g1 : ¬ (0 : Int) < (k : Int) := by omega
          have g2 : decide ((0 : Int) < (k : Int)) = false := decide_eq_false g1
          have g2' : decide (0 < k) = false := decide_eq_false hk0
          go_upto_region 7 with fail
          go_quiet (fail)
          have S7 : Hid (So w (wr.drewN nq) g (i + 1) c3' (D.take k ++ y :: D.drop k)) := HS.out.1.below (below_drewN (Below.refl _ _) _)
          have HDR : Hid (∀ u ∈ D.drop k, vb x u) := HS.out.2
          have HK0 : Hid (k = 0 ∨ ∃ z, D[k - 1]? = some z ∧ ¬ vb x z) := .inl (by omega)
          clear c0 c1 c2 c3 c4 hgv hgl HS
          generalize wr.drewN nq = W7 at *
          obtain ⟨c0, c1, c2, c3, c4, hgv⟩ := HC.out W7 S7.out.b
          have hgl := S7.out.lt
          obtain ⟨y0, y1, y2, y3, y4⟩ := S7.out.at (mid_at D y k HKL.out)
          have f0 := S7.out.fz (k * 5)
          have f1 := S7.out.fz (k * 5 + 1)
          have f2 := S7.out.fz (k * 5 + 2)
          have f3 := S7.out.fz (k * 5 + 3)
          have f4 := S7.out.fz (k * 5 + 4)
          have HE : Hid (So w (((((W7.setCell ⟨g, k * 5, none⟩ (.int .i64 x.j)).setCell ⟨g, k * 5 + 1, none⟩ (.int .i64 x.p)).setCell ⟨g, k * 5 + 2, none⟩ (.int .i64 x.s)).setCell ⟨g, k * 5 + 3, none⟩ (.slice x.qT x.nT x.cT)).setCell ⟨g, k * 5 + 4, none⟩ (.slice x.qN x.nN x.cN)) g (i + 1) c3' (srtV (L.take (i + 1)))) := by
            have h1 := S7.out.set (mid_length D y k HKL.out) x
            rw [set_mid D y x k HKL.out, ← insV_at HD.out.1 HDR.out HK0.out, HX.out.2.1] at h1
            exact h1
          have HI1 : Hid (i + 1 ≤ n) := HX.out.2.2
          clear S7 HDR HK0 HX HC H44 HD HKL
          go_wp2_with fail
          exact ⟨⟨i + 1, some ⟨g, 0, none⟩, c3', rfl, by simp, HI1.out, HE.out.row, HE.out.b⟩, by simp only [intOf]; omega⟩
end Go.Proofs.Ytcfnonfghlgphaa
