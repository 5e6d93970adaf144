/-
  The heap's part and cut.
-/
import Derived.Test.YtmcmldlnmmbbgaaPn
namespace Go.Proofs.Ytmcmldlnmmbbgaa
open Go.RowKit Go.Maps

/-- the heap with other keys: what holds of it but for the order at one entry -/
def HS.wky (S : HS) (κ : Nat → K) : HS := { S with ky := κ }
section
variable {w w' : World} {tg tg' : Nat → Tg} {hb : Nat} {S S' : HS} {wk : Option Nat} {Z : List Nat} {κ : Nat → K}
set_option maxHeartbeats 1000000 in
theorem raise_L (h : Hid (Mem w tg hb S)) (hL0 : Hid (Lc S)) {b : Nat} (HX : Hid (b ∈ S.X ∧ S.deg b < 29)) (hs : Hid (S.X.length ≤ 2000)) :
    Calls Try.prog 32 #[.pointer (some ⟨hb, 0, none⟩), .pointer (some ⟨b, 0, none⟩)] w fun e w' => e = .returned (.tuple #[]) ∧ ∃ v tg', Mem w' tg' hb (S.raise b v) ∧ Chg (fun k => k = hb ∨ k = b ∨ tg k = .fm (.rt (S.deg b))) w w' tg tg' := by
  have hB := h.out.nd b HX.out.1
  have e2 := hB.cell 4 (by decide)
  have f2 := hB.fz 4
  have G1 : Hid (Mem (w.setCell ⟨b, 4, none⟩ (.pointer none)) tg hb { S with par := upd S.par b none }) := h.out.setPar HX.out.1 none
  have G4 : Hid (Kp (fun k => k = hb ∨ k = b ∨ tg k = .fm (.rt (S.deg b))) w (w.setCell ⟨b, 4, none⟩ (.pointer none))) := Kp.of_set _ _ _ (.inr (.inl rfl))
  clear hB
  go_enter Try.func32, Try.ntmps32
  go_upto_region 1 with fail
  clear f2 e2
  generalize w.setCell ⟨b, 4, none⟩ (.pointer none) = W at *
  have HR : Hid (Calls Try.prog 40 #[.pointer (some ⟨hb, 0, none⟩), .pointer (some ⟨b, 0, none⟩)] W fun e w' => e = .returned (.pointer (some ⟨hb, 2 + S.deg b, none⟩)) ∧ Below W.heap.size W w' ∧ w'.heap.size = W.heap.size) := by
    obtain ⟨a, c, hk⟩ := h.out.kid HX.out.1
    exact row_any W hb b (S.deg b) c a _ (G1.out.nd b HX.out.1) hk HX.out.2
  have HJ : Hid (∀ w1, Below W.heap.size W w1 → Calls Try.prog 41 #[.pointer (some ⟨hb, 2 + S.deg b, none⟩), .pointer (some ⟨b, 0, none⟩)] w1 fun e w' => e = .returned (.tuple #[]) ∧ ∃ v tg', Hid (Mem w' tg' hb (S.raise b v) ∧ Chg (fun k => k = hb ∨ k = b ∨ tg k = .fm (.rt (S.deg b))) w w' tg tg')) := fun w1 b1 => by
    have hL : Lc { S with par := upd S.par b none } := ⟨hL0.out.fam, hL0.out.plc, hL0.out.slf⟩
    have hF : HS.val { S with par := upd S.par b none } (.rt (S.deg b)) := HX.out.2
    have hlen := fam_len hL hF
    refine (join_S (G1.out.keep b1) (F := .rt (S.deg b)) hF (b := b) HX.out.1 (by simp) (by have := hs.out; exact Nat.le_trans hlen (by show S.X.length ≤ _; omega))).mono ?_
    rintro e w' ⟨rfl, v, tg', m, c⟩
    refine ⟨rfl, v, tg', m, ?_⟩
    exact Chg.trans ⟨G4.out.trans (S' := fun _ => False) (Kp.of_below b1) (fun _ _ h => h.elim), fun _ _ => rfl⟩ c fun k _ hk => hk
  clear G1 G4 h hL0 hs
  go_wp2_with (first | (go_at_call 40; refine HR.out.mono ?_; rintro e w1 ⟨rfl, b1, _⟩) | (go_at_call 41; refine (HJ.out _ b1).mono ?_; rintro e w2 ⟨rfl, v, tg', R⟩))
  go_end0
  exact ⟨rfl, v, tg', R.out⟩
set_option maxHeartbeats 1000000 in
theorem part_root (w : World) (hb d p c : Nat) (R : World → Prop) (c4 : w.cell? ⟨p, 4, none⟩ = some (.pointer none))
    (H : Hid (Calls Try.prog 40 #[.pointer (some ⟨hb, 0, none⟩), .pointer (some ⟨p, 0, none⟩)] w fun e w1 => e = .returned (.pointer (some ⟨hb, 2 + d, none⟩)) ∧ Hid (Calls Try.prog 42 #[.pointer (some ⟨hb, 2 + d, none⟩), .pointer (some ⟨p, 0, none⟩)] w1 fun e w2 => e = .returned (.tuple #[]) ∧ Hid (Calls Try.prog 42 #[.pointer (some ⟨p, 5, none⟩), .pointer (some ⟨c, 0, none⟩)] w2 fun e w3 => e = .returned (.tuple #[]) ∧ Hid (Calls Try.prog 32 #[.pointer (some ⟨hb, 0, none⟩), .pointer (some ⟨p, 0, none⟩)] w3 fun e w4 => e = .returned (.tuple #[]) ∧ Hid (Calls Try.prog 32 #[.pointer (some ⟨hb, 0, none⟩), .pointer (some ⟨c, 0, none⟩)] w4 fun e w5 => e = .returned (.tuple #[]) ∧ Hid (R w5))))))) :
    Calls Try.prog 51 #[.pointer (some ⟨hb, 0, none⟩), .pointer (some ⟨p, 0, none⟩), .pointer (some ⟨c, 0, none⟩)] w fun e w' => e = .returned (.tuple #[]) ∧ R w' := by
  go_enter Try.func51, Try.ntmps51
  go_upto_region 3 with (first | (go_at_call 40; refine H.out.mono ?_; rintro e w1 ⟨rfl, H1⟩) | (go_at_call 42; refine H1.out.mono ?_; rintro e w2 ⟨rfl, H2⟩))
  go_upto_region 5 with (go_at_call 42; refine H2.out.mono ?_; rintro e w3 ⟨rfl, H3⟩)
  go_upto_region 6 with (go_at_call 32; refine H3.out.mono ?_; rintro e w4 ⟨rfl, H4⟩)
  go_wp2_with (go_at_call 32; refine H4.out.mono ?_; rintro e w5 ⟨rfl, H5⟩)
  go_end0
  exact ⟨rfl, H5.out⟩
set_option maxHeartbeats 1000000 in
theorem part_kid (w : World) (hb p q c : Nat) (R : World → Prop) (c4 : w.cell? ⟨p, 4, none⟩ = some (.pointer (some ⟨q, 0, none⟩)))
    (H : Hid (Calls Try.prog 42 #[.pointer (some ⟨p, 5, none⟩), .pointer (some ⟨c, 0, none⟩)] w fun e w3 => e = .returned (.tuple #[]) ∧ Hid (Calls Try.prog 32 #[.pointer (some ⟨hb, 0, none⟩), .pointer (some ⟨c, 0, none⟩)] w3 fun e w5 => e = .returned (.tuple #[]) ∧ Hid (R w5)))) :
    Calls Try.prog 51 #[.pointer (some ⟨hb, 0, none⟩), .pointer (some ⟨p, 0, none⟩), .pointer (some ⟨c, 0, none⟩)] w fun e w' => e = .returned (.tuple #[]) ∧ R w' := by
  go_enter Try.func51, Try.ntmps51
  go_upto_region 3 with fail
  go_upto_region 6 with (go_at_call 42; refine H.out.mono ?_; rintro e w3 ⟨rfl, H3⟩)
  go_wp2_with (go_at_call 32; refine H3.out.mono ?_; rintro e w5 ⟨rfl, H5⟩)
  go_end0
  exact ⟨rfl, H5.out⟩
/-- behind part: c is a root -/
structure Prt (w w' : World) (tg tg' : Nat → Tg) (hb p c : Nat) (κ : Nat → K) (S S' : HS) : Prop where
  m : Mem w' tg' hb S'
  i : Inv (S'.wky κ) (some p) []
  a : Alike S S'
  par : S'.par = upd S.par c none
  lost : S'.lost = S.lost
  rt : ∃ d, S'.pl c = some (.rt d)
  oth : ∀ x d, x ≠ c → S.pl x = some (.rt d) → ∃ d', S'.pl x = some (.rt d')
  k : Chg (Mine tg) w w' tg tg'
theorem part_S (h : Mem w tg hb S) (hI : Inv (S.wky κ) wk []) (hs : S.X.length ≤ 2000) {p c : Nat} (hc : c ∈ S.X) (hp : S.pl c = some (.kd p)) (hw : wk = none ∨ wk = some c) :
    Calls Try.prog 51 #[.pointer (some ⟨hb, 0, none⟩), .pointer (some ⟨p, 0, none⟩), .pointer (some ⟨c, 0, none⟩)] w fun e w' => e = .returned (.tuple #[]) ∧ ∃ S' tg', Prt w w' tg tg' hb p c κ S S' := by
  have hL : Lc S := ⟨hI.lc.fam, hI.lc.plc, hI.lc.slf⟩
  have hpX : p ∈ S.X := (hL.plc c hc _ hp).1
  have hpc : p ≠ c := fun e => hL.slf c hc (by rw [hp, e])
  have hlenK := fam_len hL (F := .kd p) hpX
  cases hpp : S.pl p with
  | none => exact absurd hpp (hI.all p hpX (by simp))
  | some F =>
    cases F with
    | rt d =>
      have hpar : S.par p = none := (hI.rt p hpX d hpp).2
      have hdeg : S.deg p = d := (hI.rt p hpX d hpp).1
      have hd29 : d < 29 := (hL.plc p hpX _ hpp).1
      have hlenR := fam_len hL (F := .rt d) hd29
      refine part_root w hb d p c _ (by rw [(h.nd p hpX).cell 4 (by decide)]; show some (optp (S.par p)) = _; rw [hpar]; rfl) ?_
      refine (row_at h hpX hdeg hd29).mono ?_
      rintro e w1 ⟨rfl, b1⟩
      refine ⟨rfl, ?_⟩
      have h1 := h.keep b1
      refine (leave_S h1 hL (F := .rt d) hd29 hpX hpp (by omega)).mono ?_
      rintro e w2 ⟨rfl, x1, m1, v1, hm1, hx1, M2, c2⟩
      refine ⟨rfl, ?_⟩
      have I2 : Inv ((S.leave (.rt d) p x1 v1).wky κ) wk [p] := hI.leaveRt v1 hpX hpp hm1 hx1
      have L2 : Lc (S.leave (.rt d) p x1 v1) := ⟨I2.lc.fam, I2.lc.plc, I2.lc.slf⟩
      have hc2 : (S.leave (.rt d) p x1 v1).pl c = some (.kd p) := (upd_other _ _ (Ne.symm hpc)).trans hp
      have hp2 : (S.leave (.rt d) p x1 v1).pl p = none := upd_same _ _ _
      have hlen2 := fam_len L2 (F := .kd p) hpX
      refine (leave_S M2 L2 (F := .kd p) hpX hc hc2 (by have : (S.leave (.rt d) p x1 v1).X = S.X := rfl; rw [this] at hlen2; omega)).mono ?_
      rintro e w3 ⟨rfl, x2, m2, v2, hm2, hx2, M3, c3⟩
      refine ⟨rfl, ?_⟩
      have I3 : Inv (((S.leave (.rt d) p x1 v1).leave (.kd p) c x2 v2).wky κ) (some p) [c, p] := I2.leaveKd v2 hc hc2 (fun i q => by have q' : (S.leave (.rt d) p x1 v1).pl p = some (.rt i) := q; rw [hp2] at q'; cases q') hw hm2 hx2
      have c2' := c2.mine h1 (F := .rt d) hd29 (hL.fam (.rt d) hd29 _ _ hx1).1
      have c3' := c3.mine M2 (F := .kd p) hpX (L2.fam (.kd p) hpX _ _ hx2).1
      generalize hS3 : (S.leave (.rt d) p x1 v1).leave (.kd p) c x2 v2 = S3 at *
      have hX3 : S3.X = S.X := by subst hS3; rfl
      have L3 : Lc S3 := ⟨I3.lc.fam, I3.lc.plc, I3.lc.slf⟩
      refine (raise_L M3 L3 (b := p) ⟨by rw [hX3]; exact hpX, I3.dl p (by show p ∈ S3.X; rw [hX3]; exact hpX)⟩ (by rw [hX3]; exact hs)).mono ?_
      rintro e w4 ⟨rfl, v4, tg4, M4, c4⟩
      refine ⟨rfl, ?_⟩
      have I4 : Inv ((S3.raise p v4).wky κ) (some p) [c] := by
        have := I3.raise v4 (b := p) (by simp)
        rw [show List.filter (· ≠ p) [c, p] = [c] by simp [Ne.symm hpc]] at this
        exact this
      have L4 : Lc (S3.raise p v4) := ⟨I4.lc.fam, I4.lc.plc, I4.lc.slf⟩
      have hX4 : (S3.raise p v4).X = S.X := hX3
      refine (raise_L M4 L4 (b := c) ⟨by rw [hX4]; exact hc, I4.dl c (by show c ∈ (S3.raise p v4).X; rw [hX4]; exact hc)⟩ (by rw [hX4]; exact hs)).mono ?_
      rintro e w5 ⟨rfl, v5, tg5, M5, c5⟩
      have I5 : Inv (((S3.raise p v4).raise c v5).wky κ) (some p) [] := by
        have := I4.raise v5 (b := c) (by simp)
        rw [show List.filter (· ≠ c) [c] = [] by simp] at this
        exact this
      have c4' := c4.mine M3 (F := .rt (S3.deg p)) (I3.dl p (by show p ∈ S3.X; rw [hX3]; exact hpX)) (by rw [hX3]; exact hpX)
      have c5' := c5.mine M4 (F := .rt ((S3.raise p v4).deg c)) (I4.dl c (by show c ∈ (S3.raise p v4).X; rw [hX4]; exact hc)) (by rw [hX4]; exact hc)
      refine ⟨rfl, (S3.raise p v4).raise c v5, tg5, ⟨M5, I5, ?_, ?_, ?_, ⟨_, by rw [pl_raise, if_pos rfl]⟩, fun x dx hxc hx => ?_, ((((Chg.below b1).then c2').then c3').then c4').then c5'⟩⟩
      · subst hS3; exact ⟨rfl, rfl, rfl, rfl, rfl, rfl⟩
      · subst hS3
        show upd (upd S.par p none) c none = upd S.par c none
        congr 1
        funext x
        by_cases e : x = p
        · subst e; rw [upd_same, hpar]
        · rw [upd_other _ _ e]
      · subst hS3; rfl
      · rw [pl_raise, if_neg hxc, pl_raise]
        by_cases e : x = p
        · rw [if_pos e]; exact ⟨_, rfl⟩
        · rw [if_neg e]
          refine ⟨dx, ?_⟩
          subst hS3
          exact (upd_other _ _ hxc).trans ((upd_other _ _ e).trans hx)
    | kd q =>
      have hpar : S.par p = some q := hI.kd p hpX q hpp
      refine part_kid w hb p q c _ (by rw [(h.nd p hpX).cell 4 (by decide)]; show some (optp (S.par p)) = _; rw [hpar]; rfl) ?_
      refine (leave_S h hL (F := .kd p) hpX hc hp (by omega)).mono ?_
      rintro e w3 ⟨rfl, x2, m2, v2, hm2, hx2, M3, c3⟩
      refine ⟨rfl, ?_⟩
      have I3 : Inv ((S.leave (.kd p) c x2 v2).wky κ) (some p) [c] := hI.leaveKd v2 hc hp (fun i q' => by have q2 : S.pl p = some (.rt i) := q'; rw [hpp] at q2; cases q2) hw hm2 hx2
      have c3' := c3.mine h (F := .kd p) hpX (hL.fam (.kd p) hpX _ _ hx2).1
      generalize hS3 : S.leave (.kd p) c x2 v2 = S3 at *
      have hX3 : S3.X = S.X := by subst hS3; rfl
      have L3 : Lc S3 := ⟨I3.lc.fam, I3.lc.plc, I3.lc.slf⟩
      refine (raise_L M3 L3 (b := c) ⟨by rw [hX3]; exact hc, I3.dl c (by show c ∈ S3.X; rw [hX3]; exact hc)⟩ (by rw [hX3]; exact hs)).mono ?_
      rintro e w5 ⟨rfl, v5, tg5, M5, c5⟩
      have I5 : Inv ((S3.raise c v5).wky κ) (some p) [] := by
        have := I3.raise v5 (b := c) (by simp)
        rw [show List.filter (· ≠ c) [c] = [] by simp] at this
        exact this
      have c5' := c5.mine M3 (F := .rt (S3.deg c)) (I3.dl c (by show c ∈ S3.X; rw [hX3]; exact hc)) (by rw [hX3]; exact hc)
      refine ⟨rfl, S3.raise c v5, tg5, ⟨M5, I5, ?_, ?_, ?_, ⟨_, by rw [pl_raise, if_pos rfl]⟩, fun x dx hxc hx => ?_, c3'.then c5'⟩⟩
      · subst hS3; exact ⟨rfl, rfl, rfl, rfl, rfl, rfl⟩
      · subst hS3; rfl
      · subst hS3; rfl
      · rw [pl_raise, if_neg hxc]
        refine ⟨dx, ?_⟩
        subst hS3
        exact (upd_other _ _ hxc).trans hx
end
end Go.Proofs.Ytmcmldlnmmbbgaa
