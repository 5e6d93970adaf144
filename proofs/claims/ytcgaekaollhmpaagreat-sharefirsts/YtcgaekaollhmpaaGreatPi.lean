/-
  The heap's link.
-/
import Derived.Test.YtcgaekaollhmpaaGreatPh
namespace Go.Proofs.YtcgaekaollhmpaaGreat
open Go.RowKit Go.Maps

/-- what link does behind its first question -/
def LinkP (hb d x y : Nat) (R : World → Prop) (W : World) : Prop :=
  Calls Tryz.prog 72 #[.pointer (some ⟨hb, 0, none⟩), .pointer (some ⟨x, 0, none⟩)] W fun e w1 => e = .returned (.pointer (some ⟨hb, 2 + d, none⟩)) ∧
  Hid (Calls Tryz.prog 77 #[.pointer (some ⟨hb, 2 + d, none⟩), .pointer (some ⟨x, 0, none⟩)] w1 fun e w2 => e = .returned (.tuple #[]) ∧
  Hid (Calls Tryz.prog 72 #[.pointer (some ⟨hb, 0, none⟩), .pointer (some ⟨y, 0, none⟩)] w2 fun e w3 => e = .returned (.pointer (some ⟨hb, 2 + d, none⟩)) ∧
  Hid (Calls Tryz.prog 77 #[.pointer (some ⟨hb, 2 + d, none⟩), .pointer (some ⟨y, 0, none⟩)] w3 fun e w4 => e = .returned (.tuple #[]) ∧
  Hid (Calls Tryz.prog 73 #[.pointer (some ⟨x, 5, none⟩), .pointer (some ⟨y, 0, none⟩)] w4 fun e w5 => e = .returned (.tuple #[]) ∧
    (∃ u u', w5.cell? ⟨y, 4, none⟩ = some u ∧ w5.cell? ⟨y, 7, none⟩ = some u') ∧ w5.frozen? ⟨y, 4, none⟩ = false ∧ w5.frozen? ⟨y, 7, none⟩ = false ∧
  Hid (Calls Tryz.prog 45 #[.pointer (some ⟨hb, 0, none⟩), .pointer (some ⟨x, 0, none⟩)] ((w5.setCell ⟨y, 4, none⟩ (.pointer (some ⟨x, 0, none⟩))).setCell ⟨y, 7, none⟩ (.bool false)) fun e w6 => e = .returned (.tuple #[]) ∧ Hid (R w6))))))
set_option maxHeartbeats 2000000 in
theorem link_raw (w : World) (hb d a b : Nat) (q : Bool) (R : World → Prop)
    (HB : Hid (Calls Tryz.prog 74 #[.pointer (some ⟨b, 0, none⟩), .pointer (some ⟨a, 0, none⟩)] w fun e w' => e = .returned (.bool q) ∧ Hid (LinkP hb d (if q then b else a) (if q then a else b) R w'))) :
    Calls Tryz.prog 102 #[.pointer (some ⟨hb, 0, none⟩), .pointer (some ⟨a, 0, none⟩), .pointer (some ⟨b, 0, none⟩)] w fun e w' => e = .returned (.tuple #[]) ∧ R w' := by
  cases q with
  | false =>
    simp only [Bool.false_eq_true, if_false] at HB
    go_enter Tryz.func102, Tryz.ntmps102
    go_upto_region 2 with (go_at_call 74; refine HB.out.mono ?_; rintro e w0 ⟨rfl, HP⟩)
    have H0 := HP.out
    unfold LinkP at H0
    go_upto_region 3 with (first | (go_at_call 72; refine H0.mono ?_; rintro e w1 ⟨rfl, H1⟩) | (go_at_call 77; refine H1.out.mono ?_; rintro e w2 ⟨rfl, H2⟩))
    go_upto_region 4 with (first | (go_at_call 72; refine H2.out.mono ?_; rintro e w3 ⟨rfl, H3⟩) | (go_at_call 77; refine H3.out.mono ?_; rintro e w4 ⟨rfl, H4⟩))
    go_upto_region 5 with (go_at_call 73; refine H4.out.mono ?_; rintro e w5 ⟨rfl, ⟨u, u', c1, c2⟩, f1, f2, H5⟩)
    go_wp2_with (go_at_call 45; refine H5.out.mono ?_; rintro e w6 ⟨rfl, H6⟩)
    go_end0
    exact ⟨rfl, H6.out⟩
  | true =>
    simp only [if_true] at HB
    go_enter Tryz.func102, Tryz.ntmps102
    go_upto_region 2 with (go_at_call 74; refine HB.out.mono ?_; rintro e w0 ⟨rfl, HP⟩)
    have H0 := HP.out
    unfold LinkP at H0
    go_upto_region 3 with (first | (go_at_call 72; refine H0.mono ?_; rintro e w1 ⟨rfl, H1⟩) | (go_at_call 77; refine H1.out.mono ?_; rintro e w2 ⟨rfl, H2⟩))
    go_upto_region 4 with (first | (go_at_call 72; refine H2.out.mono ?_; rintro e w3 ⟨rfl, H3⟩) | (go_at_call 77; refine H3.out.mono ?_; rintro e w4 ⟨rfl, H4⟩))
    go_upto_region 5 with (go_at_call 73; refine H4.out.mono ?_; rintro e w5 ⟨rfl, ⟨u, u', c1, c2⟩, f1, f2, H5⟩)
    go_wp2_with (go_at_call 45; refine H5.out.mono ?_; rintro e w6 ⟨rfl, H6⟩)
    go_end0
    exact ⟨rfl, H6.out⟩

/-- the entries, their keys and what stands in the head are the same -/
structure Alike (S S' : HS) : Prop where
  X : S'.X = S.X
  hd : S'.hd = S.hd
  ky : S'.ky = S.ky
  gv : S'.gv = S.gv
  mb : S'.mb = S.mb
  lst : S'.lst = S.lst
theorem Alike.refl (S : HS) : Alike S S := ⟨rfl, rfl, rfl, rfl, rfl, rfl⟩
theorem Alike.trans {S S' S'' : HS} (h : Alike S S') (k : Alike S' S'') : Alike S S'' := ⟨k.X.trans h.X, k.hd.trans h.hd, k.ky.trans h.ky, k.gv.trans h.gv, k.mb.trans h.mb, k.lst.trans h.lst⟩
/-- the heap's own blocks but for its map -/
def Mine (tg : Nat → Tg) (k : Nat) : Prop := tg k ≠ .no ∧ tg k ≠ .mp
section
variable {w w' : World} {tg tg' : Nat → Tg} {hb : Nat} {S S' : HS} {wk : Option Nat} {Z : List Nat}
theorem Mem.mine_loc (h : Mem w tg hb S) {F : Fa} (hF : S.val F) : Mine tg (locB hb F) := by
  cases F with
  | rt i => exact ⟨by show tg hb ≠ _; rw [h.tp]; exact nofun, by show tg hb ≠ _; rw [h.tp]; exact nofun⟩
  | kd p => exact ⟨by show tg p ≠ _; rw [h.tn p hF]; exact nofun, by show tg p ≠ _; rw [h.tn p hF]; exact nofun⟩
theorem Mem.mine_nd (h : Mem w tg hb S) {b : Nat} (hX : b ∈ S.X) : Mine tg b := ⟨by rw [h.tn b hX]; exact nofun, by rw [h.tn b hX]; exact nofun⟩
theorem mine_fm {k : Nat} {F : Fa} (h : tg k = .fm F) : Mine tg k := ⟨by rw [h]; exact nofun, by rw [h]; exact nofun⟩
theorem Chg.mine (h : Mem w tg hb S) {F : Fa} (hF : S.val F) {b : Nat} (hX : b ∈ S.X) (c : Chg (fun k => k = locB hb F ∨ k = b ∨ tg k = .fm F) w w' tg tg') : Chg (Mine tg) w w' tg tg' :=
  c.mono fun k _ hk => by
    rcases hk with rfl | rfl | hk
    · exact h.mine_loc hF
    · exact h.mine_nd hX
    · exact mine_fm hk
theorem Chg.then {w'' : World} {tg'' : Nat → Tg} (h : Chg (Mine tg) w w' tg tg') (k : Chg (Mine tg') w' w'' tg' tg'') : Chg (Mine tg) w w'' tg tg'' :=
  h.trans k fun i hi hm => by unfold Mine at *; rw [h.tg i hi] at hm; exact hm
theorem row_at (h : Mem w tg hb S) {b : Nat} (hX : b ∈ S.X) {d : Nat} (hd : S.deg b = d) (h29 : d < 29) : Calls Tryz.prog 72 #[.pointer (some ⟨hb, 0, none⟩), .pointer (some ⟨b, 0, none⟩)] w fun e w' => e = .returned (.pointer (some ⟨hb, 2 + d, none⟩)) ∧ Below w.heap.size w w' := by
  subst hd
  obtain ⟨a, c, hk⟩ := h.kid hX
  refine (row_any w hb b (S.deg b) c a _ (h.nd b hX) hk h29).mono ?_
  rintro e w' ⟨rfl, b1, _⟩
  exact ⟨rfl, b1⟩
theorem linkP_S (h : Mem w tg hb S) (hI : Inv S none []) (hs : S.X.length ≤ 2000) {x y d : Nat} (hx : x ∈ S.X) (hy : y ∈ S.X) (hxy : x ≠ y) (px : S.pl x = some (.rt d)) (py : S.pl y = some (.rt d)) (hd : d ≤ 27) (hlt : S.lt x y) :
    LinkP hb d x y (fun w' => ∃ S' tg', Mem w' tg' hb S' ∧ Inv S' none [] ∧ Alike S S' ∧ (S'.fl (.rt d)).length + 2 = (S.fl (.rt d)).length ∧ (∀ i, i < d → S'.fl (.rt i) = S.fl (.rt i)) ∧ Chg (Mine tg) w w' tg tg') w := by
  have hv : S.val (.rt d) := (show d < 29 by omega)
  have hlen := fam_len hI.lc hv
  refine (row_at h hx (hI.rt x hx d px).1 (by omega)).mono ?_
  rintro e w1 ⟨rfl, b1⟩
  refine ⟨rfl, ?_⟩
  have h1 := h.keep b1
  refine (leave_S h1 hI.lc hv hx px (by omega)).mono ?_
  rintro e w2 ⟨rfl, x1, m1, v1, hm1, hx1, M2, c2⟩
  refine ⟨rfl, ?_⟩
  have I2 := hI.leaveRt v1 hx px hm1 hx1
  have c2' := c2.mine h1 (F := .rt d) hv (hI.lc.fam _ hv _ _ hx1).1
  have py2 : (S.leave (.rt d) x x1 v1).pl y = some (.rt d) := (upd_other _ _ (Ne.symm hxy)).trans py
  have hy2 : y ∈ (S.leave (.rt d) x x1 v1).X := hy
  refine (row_at M2 hy2 (I2.rt y hy2 d py2).1 (by omega)).mono ?_
  rintro e w3 ⟨rfl, b3⟩
  refine ⟨rfl, ?_⟩
  have M3 := M2.keep b3
  have hl2 : ((S.leave (.rt d) x x1 v1).fl (.rt d)).length = m1 := by
    unfold HS.leave
    simp only
    rw [upd_same, List.length_dropLast, List.length_set]
    omega
  refine (leave_S M3 I2.lc (F := .rt d) hv hy2 py2 (by omega)).mono ?_
  rintro e w4 ⟨rfl, y1, m2, v2, hm2, hy1, M4, c4⟩
  refine ⟨rfl, ?_⟩
  have I4 := I2.leaveRt v2 hy2 py2 hm2 hy1
  have c4' := c4.mine M3 (F := .rt d) hv (I2.lc.fam (.rt d) hv _ _ hy1).1
  generalize hS4 : (S.leave (.rt d) x x1 v1).leave (.rt d) y y1 v2 = S4 at *
  have a4 : Alike S S4 := by subst hS4; exact ⟨rfl, rfl, rfl, rfl, rfl, rfl⟩
  have hx4 : x ∈ S4.X := by rw [a4.X]; exact hx
  have hy4 : y ∈ S4.X := by rw [a4.X]; exact hy
  have hl4 : (S4.fl (.rt d)).length = m2 := by
    subst hS4
    unfold HS.leave
    simp only
    rw [upd_same, List.length_dropLast, List.length_set, upd_same]
    have : ((S.leave (.rt d) x x1 v1).fl (.rt d)).length = (((S.fl (.rt d)).set (S.ix x) x1).dropLast).length := by
      unfold HS.leave
      simp only
      rw [upd_same]
    omega
  have hf4 : ∀ i, i ≠ d → S4.fl (.rt i) = S.fl (.rt i) := fun i hi => by
    subst hS4
    unfold HS.leave
    simp only
    rw [upd_other _ _ (by simpa using hi), upd_other _ _ (by simpa using hi)]
  have hdx : S4.deg x = d := by
    have : S4.deg x = S.deg x := by subst hS4; rw [deg_leave_rt, deg_leave_rt]
    rw [this]; exact (hI.rt x hx d px).1
  have hdy : S4.deg y = d := by
    have : S4.deg y = S.deg y := by subst hS4; rw [deg_leave_rt, deg_leave_rt]
    rw [this]; exact (hI.rt y hy d py).1
  have hlt4 : S4.lt x y := by unfold HS.lt; rw [a4.ky, a4.hd]; exact hlt
  have hlenx := fam_len I4.lc (F := .kd x) hx4
  refine (join_S M4 (F := .kd x) hx4 (b := y) hy4 (by simpa using hxy) (by rw [a4.X] at hlenx; omega)).mono ?_
  rintro e w5 ⟨rfl, v5, tg5, M5, c5⟩
  have hB5 := M5.nd y hy4
  refine ⟨rfl, ⟨_, _, hB5.cell 4 (by decide), hB5.cell 7 (by decide)⟩, hB5.fz 4, hB5.fz 7, ?_⟩
  have M6 : Mem ((w5.setCell ⟨y, 4, none⟩ (.pointer (some ⟨x, 0, none⟩))).setCell ⟨y, 7, none⟩ (.bool false)) tg5 hb (S4.under x y v5) := (M5.setPar hy4 (some x)).setLost (b := y) hy4 false
  have I6 := I4.under v5 (a := x) (b := y) (by simp) (by simp) hxy (by omega) (by omega) hlt4
  have hZ : List.filter (· ≠ y) [y, x] = [x] := by simp [hxy]
  rw [hZ] at I6
  have c6 : Chg (Mine tg5) w5 ((w5.setCell ⟨y, 4, none⟩ (.pointer (some ⟨x, 0, none⟩))).setCell ⟨y, 7, none⟩ (.bool false)) tg5 tg5 := ⟨(Kp.of_set (S := Mine tg5) w5 ⟨y, 4, none⟩ _ (M5.mine_nd hy4)).trans (Kp.of_set (S := Mine tg5) _ ⟨y, 7, none⟩ _ (M5.mine_nd hy4)) fun _ _ h => h, fun _ _ => rfl⟩
  have hX6 : (S4.under x y v5).X = S.X := a4.X
  refine (raise_S M6 I6 (b := x) (List.mem_singleton.2 rfl) (by rw [hX6]; exact hs)).mono ?_
  rintro e w7 ⟨rfl, v7, tg7, M7, c7⟩
  refine ⟨rfl, (S4.under x y v5).raise x v7, tg7, M7, ?_, ⟨a4.X, a4.hd, a4.ky, a4.gv, a4.mb, a4.lst⟩, ?_, fun i hi => ?_, ?_⟩
  · have := I6.raise v7 (b := x) (List.mem_singleton.2 rfl)
    rwa [show List.filter (· ≠ x) [x] = [] by simp] at this
  · have e1 : ((S4.under x y v5).raise x v7).fl (.rt d) = S4.fl (.rt d) := by
      have hdd : (S4.under x y v5).deg x = d + 1 := by rw [deg_under, if_pos rfl, hdx]
      unfold HS.raise
      rw [hdd]
      unfold HS.join
      simp only
      rw [upd_other _ _ (by simp)]
      unfold HS.under HS.join
      simp only
      rw [upd_other _ _ (by simp)]
    rw [e1, hl4]
    omega
  · have hdd : (S4.under x y v5).deg x = d + 1 := by rw [deg_under, if_pos rfl, hdx]
    unfold HS.raise
    rw [hdd]
    unfold HS.join
    simp only
    rw [upd_other _ _ (by simp; omega)]
    unfold HS.under HS.join
    simp only
    rw [upd_other _ _ (by simp)]
    exact hf4 i (by omega)
  · have c5' := c5.mine M4 (F := .kd x) hx4 hy4
    have c7' : Chg (Mine tg5) ((w5.setCell ⟨y, 4, none⟩ (.pointer (some ⟨x, 0, none⟩))).setCell ⟨y, 7, none⟩ (.bool false)) w7 tg5 tg7 := c7.mine M6 (F := .rt ((S4.under x y v5).deg x)) (by show _ < 29; rw [deg_under, if_pos rfl, hdx]; omega) hx4
    exact (((((Chg.below b1).then c2').then (Chg.below b3)).then c4').then c5').then (c6.then c7')
theorem link_S (h : Mem w tg hb S) (hI : Inv S none []) (hs : S.X.length ≤ 2000) {a b d : Nat} (ha : a ∈ S.X) (hb' : b ∈ S.X) (hab : a ≠ b) (pa : S.pl a = some (.rt d)) (pb : S.pl b = some (.rt d)) (hd : d ≤ 27) :
    Calls Tryz.prog 102 #[.pointer (some ⟨hb, 0, none⟩), .pointer (some ⟨a, 0, none⟩), .pointer (some ⟨b, 0, none⟩)] w fun e w' => e = .returned (.tuple #[]) ∧ ∃ S' tg', Mem w' tg' hb S' ∧ Inv S' none [] ∧ Alike S S' ∧ (S'.fl (.rt d)).length + 2 = (S.fl (.rt d)).length ∧ (∀ i, i < d → S'.fl (.rt i) = S.fl (.rt i)) ∧ Chg (Mine tg) w w' tg tg' := by
  refine link_raw w hb d a b (elB (S.ky b) (S.hd b) (S.ky a) (S.hd a)) _ ?_
  refine (before_any w b a _ _ _ _ (hI.ok b hb') (hI.ok a ha) (h.n4 hb') (h.n4 ha)).mono ?_
  rintro e w1 ⟨rfl, b1⟩
  refine ⟨rfl, ?_⟩
  have up : ∀ w', (∃ S' tg', Mem w' tg' hb S' ∧ Inv S' none [] ∧ Alike S S' ∧ (S'.fl (.rt d)).length + 2 = (S.fl (.rt d)).length ∧ (∀ i, i < d → S'.fl (.rt i) = S.fl (.rt i)) ∧ Chg (Mine tg) w1 w' tg tg') → ∃ S' tg', Mem w' tg' hb S' ∧ Inv S' none [] ∧ Alike S S' ∧ (S'.fl (.rt d)).length + 2 = (S.fl (.rt d)).length ∧ (∀ i, i < d → S'.fl (.rt i) = S.fl (.rt i)) ∧ Chg (Mine tg) w w' tg tg' := by
    rintro w' ⟨S', tg', x1, x2, x3, x4, x5, x6⟩
    exact ⟨S', tg', x1, x2, x3, x4, x5, (Chg.below b1).then x6⟩
  have mono : ∀ {x y : Nat} {R R' : World → Prop}, (∀ w, R w → R' w) → LinkP hb d x y R w1 → LinkP hb d x y R' w1 := by
    intro x y R R' hR hL
    unfold LinkP at hL ⊢
    exact hL.mono fun e w1 ⟨e1, q1⟩ => ⟨e1, q1.out.mono fun e w2 ⟨e2, q2⟩ => ⟨e2, q2.out.mono fun e w3 ⟨e3, q3⟩ => ⟨e3, q3.out.mono fun e w4 ⟨e4, q4⟩ => ⟨e4, q4.out.mono fun e w5 ⟨e5, r1, r2, r3, q5⟩ => ⟨e5, r1, r2, r3, q5.out.mono fun e w6 ⟨e6, q6⟩ => ⟨e6, hR _ q6.out⟩⟩⟩⟩⟩⟩
  by_cases q : elB (S.ky b) (S.hd b) (S.ky a) (S.hd a) = true
  · rw [if_pos q, if_pos q]
    exact mono up (linkP_S (h.keep b1) hI hs hb' ha (Ne.symm hab) pb pa hd (elB_iff.1 q))
  · rw [if_neg q, if_neg q]
    have hlt : S.lt a b := by
      rcases lt_tri hI ha hb' hab with h1 | h1
      · exact h1
      · exact absurd (elB_iff.2 h1) q
    exact mono up (linkP_S (h.keep b1) hI hs ha hb' hab pa pb hd hlt)
end
end Go.Proofs.YtcgaekaollhmpaaGreat
