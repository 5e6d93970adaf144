/-
  The heap's settle.
-/
import Derived.Test.YtcgaekaollhmpaaGreatPi
namespace Go.Proofs.YtcgaekaollhmpaaGreat
open Go.RowKit Go.Maps

section
variable {w w' : World} {tg tg' : Nat → Tg} {hb : Nat} {S S' : HS} {wk : Option Nat} {Z : List Nat}
theorem below_dr (w : World) : Below w.heap.size w w.drew := ⟨rfl, rfl, rfl, Nat.le_refl _, fun _ _ => rfl⟩
/-- the least of those that were offered -/
structure Seen (S : HS) (Y : Nat → Prop) : Prop where
  some : ∀ m, S.lst = some m → m ∈ S.X ∧ S.isMin m Y
  none : S.lst = none → ∀ b, ¬ Y b
theorem Seen.offer (hI : Inv S wk Z) {Y : Nat → Prop} (h : Seen S Y) (hY : ∀ b, Y b → b ∈ S.X) {b : Nat} (hb : b ∈ S.X) : Seen (S.offer b) (fun x => Y x ∨ x = b) := by
  unfold HS.offer
  cases hm : S.lst with
  | none =>
    refine ⟨fun m e => ?_, fun e => by cases e⟩
    have e' : b = m := Option.some.inj e
    subst e'
    exact ⟨hb, fun x hx => hx.elim (fun hx => absurd hx (h.none hm x)) .inl⟩
  | some m =>
    obtain ⟨hmX, hmin⟩ := h.some m hm
    simp only
    by_cases e : elB (S.ky b) (S.hd b) (S.ky m) (S.hd m) = true
    · rw [if_pos e]
      have hlt : S.lt b m := elB_iff.1 e
      refine ⟨fun m' e' => ?_, fun e' => by cases e'⟩
      have e2 : b = m' := Option.some.inj e'
      subst e2
      refine ⟨hb, fun x hx => ?_⟩
      rcases hx with hx | rfl
      · right
        rcases hmin x hx with rfl | h1
        · exact hlt
        · exact lt_trans' hI hb hmX (hY x hx) hlt h1
      · exact .inl rfl
    · rw [if_neg e]
      refine ⟨fun m' e' => ?_, fun e' => by rw [hm] at e'; cases e'⟩
      rw [hm] at e'
      have e2 : m = m' := Option.some.inj e'
      subst e2
      refine ⟨hmX, fun x hx => ?_⟩
      rcases hx with hx | rfl
      · exact hmin x hx
      · by_cases ex : x = m
        · exact .inl ex
        · rcases lt_tri hI hb hmX ex with h1 | h1
          · exact absurd (elB_iff.2 h1) e
          · exact .inr h1
theorem offer_alike (S : HS) (b : Nat) : (S.offer b).X = S.X ∧ (S.offer b).fl = S.fl ∧ (S.offer b).pl = S.pl ∧ (S.offer b).hd = S.hd ∧ (S.offer b).ky = S.ky ∧ (S.offer b).gv = S.gv ∧ (S.offer b).mb = S.mb ∧ (S.offer b).fv = S.fv := by
  unfold HS.offer
  split
  · exact ⟨rfl, rfl, rfl, rfl, rfl, rfl, rfl, rfl⟩
  · split <;> exact ⟨rfl, rfl, rfl, rfl, rfl, rfl, rfl, rfl⟩
theorem Inv.lst (h : Inv S wk Z) (p : Option Nat) : Inv { S with lst := p } wk Z := ⟨⟨h.lc.fam, h.lc.plc, h.lc.slf⟩, h.all, h.out, h.rt, h.kd, h.ord, h.dl, h.dg, h.nd, h.hu, h.hg, h.ok, h.gb⟩
theorem Inv.offer (h : Inv S wk Z) (b : Nat) : Inv (S.offer b) wk Z := by
  unfold HS.offer
  split
  · exact h.lst _
  · split
    · exact h.lst _
    · exact h
/-- the entries, their keys and what stands in the head, but for the least, are the same -/
structure Alik (S S' : HS) : Prop where
  X : S'.X = S.X
  hd : S'.hd = S.hd
  ky : S'.ky = S.ky
  gv : S'.gv = S.gv
  mb : S'.mb = S.mb
theorem Alik.refl (S : HS) : Alik S S := ⟨rfl, rfl, rfl, rfl, rfl⟩
theorem Alik.trans {S S' S'' : HS} (h : Alik S S') (k : Alik S' S'') : Alik S S'' := ⟨k.X.trans h.X, k.hd.trans h.hd, k.ky.trans h.ky, k.gv.trans h.gv, k.mb.trans h.mb⟩
theorem Alike.k {S S' : HS} (h : Alike S S') : Alik S S' := ⟨h.X, h.hd, h.ky, h.gv, h.mb⟩
/-- within settle, ahead of row d -/
structure Stl (w w' : World) (tg : Nat → Tg) (hb : Nat) (S S' : HS) (tg' : Nat → Tg) (d : Nat) : Prop where
  m : Mem w' tg' hb S'
  i : Inv S' none []
  a : Alik S S'
  r : ∀ i, i < d → (S'.fl (.rt i)).length ≤ 1
  s : Seen S' fun b => ∃ i, i < d ∧ b ∈ S'.fl (.rt i)
  c : Chg (Mine tg) w w' tg tg'
/-- within row d: its roots' number is n -/
def Lnk (w w' : World) (tg : Nat → Tg) (hb : Nat) (S : HS) (d : Nat) : Prop := ∃ S' tg', Stl w w' tg hb S S' tg' d
def rowLen (w : World) (hb d : Nat) : Nat := match w.cell? ⟨hb, 2 + d, none⟩ with
  | some (.slice _ n _) => n
  | _ => 0
theorem rowLen_eq (h : Mem w tg hb S) {d : Nat} (hd : d < 29) : rowLen w hb d = (S.fl (.rt d)).length := by
  unfold rowLen
  rw [h.hp.cell (2 + d) (by omega), hpC_rt S hd]
  obtain ⟨a, c, e⟩ := (h.fm (.rt d) hd).shape
  rw [e]
theorem Stl.link {d : Nat} (h : Stl w w' tg hb S S' tg' d) (hs : S.X.length ≤ 2000) (hd : d < 29) {a b : Nat} (ha : (S'.fl (.rt d))[0]? = some a) (hb' : (S'.fl (.rt d))[1]? = some b) :
    Calls Tryz.prog 102 #[.pointer (some ⟨hb, 0, none⟩), .pointer (some ⟨a, 0, none⟩), .pointer (some ⟨b, 0, none⟩)] w' fun e w'' => e = .returned (.tuple #[]) ∧ Hid (Lnk w w'' tg hb S d ∧ rowLen w'' hb d < rowLen w' hb d) := by
  obtain ⟨a1, a2, a3⟩ := h.i.lc.fam (.rt d) hd _ _ ha
  obtain ⟨b1, b2, b3⟩ := h.i.lc.fam (.rt d) hd _ _ hb'
  have hab : a ≠ b := by rintro rfl; omega
  have hs' : S'.X.length ≤ 2000 := by rw [h.a.X]; exact hs
  have hdeg : d ≤ 27 := by rw [← (h.i.rt a a1 d a2).1]; exact deg_bound h.i hs' a1
  refine (link_S h.m h.i hs' a1 b1 hab a2 b2 hdeg).mono ?_
  rintro e w'' ⟨rfl, S2, tg2, m2, i2, al, l2, r2, c2⟩
  refine ⟨rfl, ⟨S2, tg2, ⟨m2, i2, h.a.trans al.k, fun i hi => by rw [r2 i hi]; exact h.r i hi, ⟨fun m e => ?_, fun e b => ?_⟩, h.c.then c2⟩⟩, ?_⟩
  · rw [al.lst] at e
    obtain ⟨k1, k2⟩ := h.s.some m e
    refine ⟨by rw [al.X]; exact k1, fun x hx => ?_⟩
    obtain ⟨i, hi, hx⟩ := hx
    rw [r2 i hi] at hx
    have := k2 x ⟨i, hi, hx⟩
    unfold HS.lt at this ⊢
    rw [al.ky, al.hd]
    exact this
  · rw [al.lst] at e
    rintro ⟨i, hi, hx⟩
    rw [r2 i hi] at hx
    exact h.s.none e b ⟨i, hi, hx⟩
  · rw [rowLen_eq m2 hd, rowLen_eq h.m hd]
    omega
theorem Stl.keep {w2 : World} {d : Nat} (h : Stl w w' tg hb S S' tg' d) (b : Below w'.heap.size w' w2) : Stl w w2 tg hb S S' tg' d := ⟨h.m.keep b, h.i, h.a, h.r, h.s, h.c.then (Chg.below b)⟩
/-- within row d, behind j offers -/
structure Off (w w' : World) (tg : Nat → Tg) (hb : Nat) (S1 : HS) (tg1 : Nat → Tg) (d j : Nat) (S2 : HS) : Prop where
  m : Mem w' tg1 hb S2
  i : Inv S2 none []
  a : Alik S1 S2
  f : S2.fl = S1.fl
  v : S2.fv = S1.fv
  s : Seen S2 fun b => (∃ i, i < d ∧ b ∈ S1.fl (.rt i)) ∨ ∃ k, k < j ∧ (S1.fl (.rt d))[k]? = some b
  c : Chg (Mine tg) w w' tg tg1
theorem Seen.iff {Y Y' : Nat → Prop} (h : Seen S Y) (e : ∀ b, Y' b → Y b) : Seen S Y' := ⟨fun m hm => ⟨(h.some m hm).1, fun b hb => (h.some m hm).2 b (e b hb)⟩, fun hn b hb => h.none hn b (e b hb)⟩
theorem Off.start {d : Nat} (h : Stl w w' tg hb S S' tg' d) : Off w w' tg hb S' tg' d 0 S' := ⟨h.m, h.i, Alik.refl _, rfl, rfl, h.s.iff fun b hb => hb.resolve_right fun ⟨k, hk, _⟩ => by omega, h.c⟩
theorem Off.next {S1 S2 : HS} {tg1 : Nat → Tg} {d j x : Nat} (h : Off w w' tg hb S1 tg1 d j S2) (hd : d < 29) (hx : (S1.fl (.rt d))[j]? = some x) :
    Calls Tryz.prog 46 #[.pointer (some ⟨hb, 0, none⟩), .pointer (some ⟨x, 0, none⟩)] w' fun e w'' => e = .returned (.tuple #[]) ∧ Hid (∃ S3, Off w w'' tg hb S1 tg1 d (j + 1) S3) := by
  have hxX : x ∈ S2.X := by
    have := h.i.lc.fam (.rt d) hd j x (by rw [h.f]; exact hx)
    exact this.1
  refine (offer_S h.m hxX h.i.ok (fun m hm => (h.s.some m hm).1)).mono ?_
  rintro e w'' ⟨rfl, m3, k3⟩
  obtain ⟨a1, a2, a3, a4, a5, a6, a7, a8⟩ := offer_alike S2 x
  refine ⟨rfl, S2.offer x, ⟨m3, h.i.offer x, h.a.trans ⟨a1, a4, a5, a6, a7⟩, a2.trans h.f, a8.trans h.v, ?_, h.c.then ⟨k3.mono fun k _ e => by rw [show k = hb from e]; exact h.m.mine_loc (F := .rt 0) (by show 0 < 29; decide), fun _ _ => rfl⟩⟩⟩
  refine (h.s.offer h.i (fun b hb' => ?_) hxX).iff fun b hb' => ?_
  · rcases hb' with ⟨i, hi, hb'⟩ | ⟨k, hk, hb'⟩
    · obtain ⟨j', hj'⟩ := List.getElem?_of_mem hb'
      exact (h.i.lc.fam (.rt i) (by show i < 29; omega) j' b (by rw [h.f]; exact hj')).1
    · exact (h.i.lc.fam (.rt d) hd k b (by rw [h.f]; exact hb')).1
  · rcases hb' with hb' | ⟨k, hk, hb'⟩
    · exact .inl (.inl hb')
    · by_cases e : k = j
      · subst e
        rw [hx] at hb'
        exact .inr (Option.some.inj hb').symm
      · exact .inl (.inr ⟨k, by omega, hb'⟩)
theorem Off.done {S1 S2 : HS} {tg1 : Nat → Tg} {d j : Nat} (h : Off w w' tg hb S1 tg1 d j S2) (ha : Alik S S1) (hr : ∀ i, i < d → (S1.fl (.rt i)).length ≤ 1) (hj : (S1.fl (.rt d)).length ≤ j) (h1 : (S1.fl (.rt d)).length ≤ 1) : Lnk w w' tg hb S (d + 1) := by
  refine ⟨S2, tg1, ⟨h.m, h.i, ha.trans h.a, fun i hi => ?_, h.s.iff fun b hb' => ?_, h.c⟩⟩
  · rw [h.f]
    by_cases e : i = d
    · rw [e]; exact h1
    · exact hr i (by omega)
  · obtain ⟨i, hi, hb'⟩ := hb'
    rw [h.f] at hb'
    by_cases e : i = d
    · subst e
      obtain ⟨k, hk⟩ := List.getElem?_of_mem hb'
      exact .inr ⟨k, Nat.lt_of_lt_of_le (List.getElem?_eq_some_iff.1 hk).1 hj, hk⟩
    · exact .inl ⟨i, by omega, hb'⟩
set_option maxHeartbeats 2000000 in
theorem settle_S (h : Hid (Mem w tg hb S)) (hI : Hid (Inv S none [])) (hs : Hid (S.X.length ≤ 2000)) :
    Calls Tryz.prog 78 #[.pointer (some ⟨hb, 0, none⟩)] w fun e w' => e = .returned (.tuple #[]) ∧ ∃ S' tg', Stl w w' tg hb S S' tg' 29 := by
  have e1 := h.out.hp.cell 31 (by decide)
  have f1 := h.out.hp.fz 31
  have A0 : Hid (Lnk w (w.setCell ⟨hb, 31, none⟩ (.pointer none)) tg hb S 0) := ⟨{ S with lst := none }, tg, ⟨h.out.setLst none, hI.out.lst none, ⟨rfl, rfl, rfl, rfl, rfl⟩, fun i hi => by omega, ⟨fun m e => (by cases e), fun _ b => by rintro ⟨i, hi, _⟩; omega⟩, ⟨Kp.of_set _ _ _ (h.out.mine_loc (F := .rt 0) (by show 0 < 29; decide)), fun _ _ => rfl⟩⟩⟩
  go_enter Tryz.func78, Tryz.ntmps78
  go_wp2_with fail
  generalize w.setCell ⟨hb, 31, none⟩ (.pointer none) = W0 at *
  clear e1 f1 h hI
  go_loopw [8] (fun i wr => ∃ d : Nat, d ≤ 29 ∧ i = .int .i64 d ∧ Lnk w wr tg hb S d) (fun i _ => 29 - (intOf i).toNat)
  case atStart => exact ⟨0, by omega, rfl, A0.out⟩
  case round =>
    obtain ⟨d, hd, rfl, hL⟩ := hrel
    have L0 : Hid (Lnk w wr tg hb S d) := hL
    clear hL A0
    by_cases hd2 : ¬ d < 29
    · have hi : ¬ (d : Int) < 29 := by omega
      have hde : d = 29 := by omega
      subst hde
      go_wp2_with fail
      go_end0
      exact ⟨rfl, L0.out⟩
    have hd3 : d < 29 := Decidable.not_not.1 hd2
    have hi : (d : Int) < 29 := by omega
    clear hd2
    go_wp2_with fail
    go_loopw [11] (fun _ wr => Lnk w wr tg hb S d) (fun _ wr => rowLen wr hb d)
    case atStart => exact L0.out
    case round =>
      obtain ⟨S1, tg1, hS⟩ := hrel
      have L1 : Hid (Stl w wr tg hb S S1 tg1 d) := hS
      have c0 := hS.m.hp.cell (2 + d) (by omega)
      rw [hpC_rt S1 hd3] at c0
      obtain ⟨a, c, hv⟩ := (hS.m.fm (.rt d) hd3).shape
      rw [hv] at c0
      have HF : Hid (Fam wr (.slice a (S1.fl (.rt d)).length c) (S1.fl (.rt d))) := by rw [← hv]; exact hS.m.fm (.rt d) hd3
      have hlen : (S1.fl (.rt d)).length ≤ 2000 := by have h1 := fam_len hS.i.lc (F := .rt d) hd3; rw [hS.a.X] at h1; exact Nat.le_trans h1 hs.out
      clear hS hv
      by_cases hn : 1 < (S1.fl (.rt d)).length
      · obtain ⟨x, hx⟩ : ∃ x, (S1.fl (.rt d))[0]? = some x := ⟨_, List.getElem?_eq_getElem (by omega)⟩
        obtain ⟨y, hy⟩ : ∃ y, (S1.fl (.rt d))[1]? = some y := ⟨_, List.getElem?_eq_getElem (by omega)⟩
        have H52 : Hid (∀ w1, Below wr.heap.size wr w1 → Calls Tryz.prog 102 #[.pointer (some ⟨hb, 0, none⟩), .pointer (some ⟨x, 0, none⟩), .pointer (some ⟨y, 0, none⟩)] w1 fun e w'' => e = .returned (.tuple #[]) ∧ Hid (Lnk w w'' tg hb S d ∧ rowLen w'' hb d < rowLen wr hb d)) := fun w1 b1 => by
          have := (L1.out.keep b1).link hs.out hd3 hx hy
          rw [rowLen_eq (L1.out.keep b1).m hd3] at this
          rw [rowLen_eq L1.out.m hd3]
          exact this
        obtain ⟨g, c', hg⟩ := HF.out.row (by intro e; rw [e] at hn; simp at hn)
        have ea : a = some ⟨g, 0, none⟩ ∧ c = c' := by simpa using hg
        obtain ⟨rfl, rfl⟩ := ea
        obtain ⟨p0, _⟩ := HF.out.cell hx
        obtain ⟨p1, _⟩ := HF.out.cell hy
        unfold ptr at p0 p1
        have n0 : (1 : Int) < ((S1.fl (.rt d)).length : Int) := by omega
        have n1 : (0 : Int) < ((S1.fl (.rt d)).length : Int) := by omega
        clear hx hy hg L1 HF
        generalize (S1.fl (.rt d)).length = n at *
        go_wp2_with fail
        go_region_with (go_at_call 102; refine (H52.out wr.drew (below_dr wr)).mono ?_; rintro e w5 ⟨rfl, H5⟩)
        all_goals go_wp2_with fail
        all_goals exact ⟨H5.out.1, H5.out.2⟩
      · have n0 : ¬ (1 : Int) < ((S1.fl (.rt d)).length : Int) := by omega
        have hn1 : (S1.fl (.rt d)).length ≤ 1 := by omega
        clear hn
        have HN : Hid ((S1.fl (.rt d)).length ≤ 1) := hn1
        have O0 : Hid (Off w wr tg hb S1 tg1 d 0 S1) := Off.start L1.out
        have HA : Hid (Alik S S1 ∧ ∀ i, i < d → (S1.fl (.rt i)).length ≤ 1) := ⟨L1.out.a, L1.out.r⟩
        have HV : Hid (S1.fv (.rt d) = .slice a (S1.fl (.rt d)).length c) := by
          obtain ⟨a', c', hv'⟩ := (L1.out.m.fm (.rt d) hd3).shape
          have c1 := L1.out.m.hp.cell (2 + d) (by omega)
          rw [hpC_rt S1 hd3, c0] at c1
          exact (Option.some.inj c1).symm
        clear hn1 L1 HF
        have HL : ∃ l, l = S1.fl (.rt d) := ⟨_, rfl⟩
        obtain ⟨l, hl⟩ := HL
        have HLE : Hid (l = S1.fl (.rt d)) := hl
        rw [← hl] at n0 hlen c0 HN HV
        clear hl
        go_wp2_with fail
        go_loopw [44] (fun i wr => ∃ (j : Nat) (S2 : HS), j ≤ l.length ∧ i = .int .i64 j ∧ Off w wr tg hb S1 tg1 d j S2) (fun i _ => l.length - (intOf i).toNat)
        case atStart => exact ⟨0, S1, Nat.zero_le _, rfl, O0.out⟩
        case round =>
          obtain ⟨j, S2, hj, rfl, hO⟩ := hrel
          have O1 : Hid (Off w wr tg hb S1 tg1 d j S2) := hO
          clear hO
          by_cases hjl : j < l.length
          · have hi2 : (j : Int) < (l.length : Int) := by omega
            obtain ⟨x, hx⟩ : ∃ x, (S1.fl (.rt d))[j]? = some x := ⟨_, List.getElem?_eq_getElem (by rw [← HLE.out]; exact hjl)⟩
            have hF2 : Fam wr (.slice a l.length c) l := by
              have := O1.out.m.fm (.rt d) hd3
              rw [O1.out.v, O1.out.f, HV.out, ← HLE.out] at this
              exact this
            obtain ⟨g, c', hg⟩ := hF2.row (by intro e; rw [e] at hjl; simp at hjl)
            have ea : a = some ⟨g, 0, none⟩ ∧ c = c' := by simpa using hg
            obtain ⟨rfl, rfl⟩ := ea
            obtain ⟨p0, _⟩ := hF2.cell (by rw [HLE.out]; exact hx)
            unfold ptr at p0
            have H33 : Hid (Calls Tryz.prog 46 #[.pointer (some ⟨hb, 0, none⟩), .pointer (some ⟨x, 0, none⟩)] wr fun e w'' => e = .returned (.tuple #[]) ∧ Hid (∃ S3, Off w w'' tg hb S1 tg1 d (j + 1) S3)) := O1.out.next hd3 hx
            clear hx hF2 hg O1
            go_wp2_with (go_at_call 46; refine H33.out.mono ?_; rintro e w6 ⟨rfl, H6⟩)
            obtain ⟨S3, h3⟩ := H6.out
            exact ⟨⟨j + 1, S3, by omega, by go_num, h3⟩, by simp [intOf]; omega⟩
          · have hi2 : ¬ (j : Int) < (l.length : Int) := by omega
            have HD : Hid (Lnk w wr tg hb S (d + 1)) := O1.out.done HA.out.1 HA.out.2 (by rw [← HLE.out]; omega) (by rw [← HLE.out]; exact HN.out)
            clear O1
            go_wp2_with fail
            exact ⟨⟨d + 1, by omega, by go_num, HD.out⟩, by simp [intOf]; omega⟩
end
end Go.Proofs.YtcgaekaollhmpaaGreat
