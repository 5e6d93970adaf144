/-
  The heap's raise, offer, link over the heap's data.
-/
import Derived.Test.YtmcmldlnmmbbgaaPg
namespace Go.Proofs.Ytmcmldlnmmbbgaa
open Go.RowKit Go.Maps

theorem fam_len {S : HS} (h : Lc S) {F : Fa} (hF : S.val F) : (S.fl F).length ≤ S.X.length := by
  refine nodup_len (List.pairwise_iff_getElem.2 fun i j hi hj hij e => ?_) fun a ha => ?_
  · have hx : (S.fl F)[j]? = some (S.fl F)[j] := List.getElem?_eq_getElem hj
    have hy : (S.fl F)[i]? = some (S.fl F)[j] := by rw [List.getElem?_eq_getElem hi, e]
    have h1 := (h.fam F hF j _ hx).2.2
    have h2 := (h.fam F hF i _ hy).2.2
    omega
  · obtain ⟨j, hj⟩ := List.getElem?_of_mem ha
    exact (h.fam F hF j a hj).1
section
variable {w w' : World} {tg tg' : Nat → Tg} {hb : Nat} {S S' : HS} {wk : Option Nat} {Z : List Nat}
theorem Mem.ne_hb (h : Mem w tg hb S) {b : Nat} (hb' : b ∈ S.X) : hb ≠ b := fun e => by have h1 := h.tp; rw [e, h.tn b hb'] at h1; cases h1
theorem Mem.node (h : Mem w tg hb S) {b : Nat} (hb' : b ∈ S.X) (hk : Kp (· = b) w w') (S' : HS) (hX : S'.X = S.X) (hfl : S'.fl = S.fl) (hfv : S'.fv = S.fv) (hh : S'.hpC = S.hpC) (ho : ∀ c, c ≠ b → S'.ndC c = S.ndC c) (hn : Blk w' b 84 8 (S'.ndC b)) : Mem w' tg hb S' := by
  have hval : ∀ F, S'.val F → S.val F := fun F hF => by
    cases F with
    | rt i => exact hF
    | kd p => exact (hX ▸ hF : p ∈ S.X)
  refine ⟨by rw [hh]; exact blk_keep h.hp hk (h.ne_hb hb'), fun c hc => ?_, fun F hF => ?_, h.tp, fun c hc => h.tn c (hX ▸ hc), fun F hF g hg => h.tf F (hval F hF) g (by rw [← hfv]; exact hg), fun k hk' => Nat.lt_of_lt_of_le (h.lt k hk') hk.size⟩
  · by_cases e : c = b
    · subst e; exact hn
    · rw [ho c e]
      exact blk_keep (h.nd c (hX ▸ hc)) hk e
  · rw [hfv, hfl]
    refine (h.fm F (hval F hF)).keep fun g hg => hk.block g ((h.fm F (hval F hF)).lt hg) fun e => ?_
    have h1 := h.tf F (hval F hF) g hg
    rw [show g = b from e, h.tn b hb'] at h1
    cases h1
theorem Mem.head (h : Mem w tg hb S) (hk : Kp (· = hb) w w') (S' : HS) (hX : S'.X = S.X) (hfl : S'.fl = S.fl) (hfv : S'.fv = S.fv) (ho : ∀ c, S'.ndC c = S.ndC c) (hn : Blk w' hb 70 32 S'.hpC) : Mem w' tg hb S' := by
  have hval : ∀ F, S'.val F → S.val F := fun F hF => by
    cases F with
    | rt i => exact hF
    | kd p => exact (hX ▸ hF : p ∈ S.X)
  refine ⟨hn, fun c hc => ?_, fun F hF => ?_, h.tp, fun c hc => h.tn c (hX ▸ hc), fun F hF g hg => h.tf F (hval F hF) g (by rw [← hfv]; exact hg), fun k hk' => Nat.lt_of_lt_of_le (h.lt k hk') hk.size⟩
  · rw [ho c]
    exact blk_keep (h.nd c (hX ▸ hc)) hk fun e => h.ne_hb (hX ▸ hc) e.symm
  · rw [hfv, hfl]
    refine (h.fm F (hval F hF)).keep fun g hg => hk.block g ((h.fm F (hval F hF)).lt hg) fun e => ?_
    have h1 := h.tf F (hval F hF) g hg
    rw [show g = hb from e, h.tp] at h1
    cases h1
theorem Mem.kid (h : Mem w tg hb S) {b : Nat} (hb' : b ∈ S.X) : ∃ a c, S.fv (.kd b) = .slice a (S.deg b) c := (h.fm (.kd b) hb').shape
theorem Mem.setPar (h : Mem w tg hb S) {b : Nat} (hb' : b ∈ S.X) (p : Option Nat) : Mem (w.setCell ⟨b, 4, none⟩ (optp p)) tg hb { S with par := upd S.par b p } := by
  refine h.node hb' (Kp.of_set _ _ _ rfl) _ rfl rfl rfl rfl (fun c hc => ?_) (((h.nd b hb').set 4 _).same fun j hj => ?_)
  · funext j
    unfold HS.ndC
    simp only
    rw [upd_other _ _ hc]
  · unfold fset HS.ndC
    simp only
    by_cases e : j = 4
    · subst e; simp [upd_same]
    · simp [e]
theorem Mem.setLost (h : Mem w tg hb S) {b : Nat} (hb' : b ∈ S.X) (p : Bool) : Mem (w.setCell ⟨b, 7, none⟩ (.bool p)) tg hb { S with lost := upd S.lost b p } := by
  refine h.node hb' (Kp.of_set _ _ _ rfl) _ rfl rfl rfl rfl (fun c hc => ?_) (((h.nd b hb').set 7 _).same fun j hj => ?_)
  · funext j
    unfold HS.ndC
    simp only
    rw [upd_other _ _ hc]
  · unfold fset HS.ndC
    simp only
    by_cases e : j = 7
    · subst e; simp [upd_same]
    · rw [if_neg e, show (upd S.lost b p b) = p from upd_same _ _ _]
      by_cases e0 : j = 0
      · simp [e0]
      by_cases e1 : j = 1
      · simp [e1]
      by_cases e2 : j = 2
      · simp [e2]
      by_cases e3 : j = 3
      · simp [e3]
      by_cases e4 : j = 4
      · simp [e4]
      by_cases e5 : j = 5
      · simp [e5]
      by_cases e6 : j = 6
      · simp [e6]
      omega
theorem Mem.setLst (h : Mem w tg hb S) (p : Option Nat) : Mem (w.setCell ⟨hb, 31, none⟩ (optp p)) tg hb { S with lst := p } := by
  refine h.head (Kp.of_set _ _ _ rfl) _ rfl rfl rfl (fun c => rfl) ((h.hp.set 31 _).same fun j hj => ?_)
  unfold fset HS.hpC
  simp only
  by_cases e : j = 31
  · subst e; simp
  · simp [e]

set_option maxHeartbeats 1000000 in
theorem raise_S (h : Hid (Mem w tg hb S)) (hI : Hid (Inv S wk Z)) {b : Nat} (hbZ : Hid (b ∈ Z)) (hs : Hid (S.X.length ≤ 2000)) :
    Calls Try.prog 32 #[.pointer (some ⟨hb, 0, none⟩), .pointer (some ⟨b, 0, none⟩)] w fun e w' => e = .returned (.tuple #[]) ∧ ∃ v tg', Mem w' tg' hb (S.raise b v) ∧ Chg (fun k => k = hb ∨ k = b ∨ tg k = .fm (.rt (S.deg b))) w w' tg tg' := by
  obtain ⟨hX, hp⟩ := hI.out.out b hbZ.out
  have hd := hI.out.dl b hX
  have hB := h.out.nd b hX
  have e2 := hB.cell 4 (by decide)
  have f2 := hB.fz 4
  have G1 : Hid (Mem (w.setCell ⟨b, 4, none⟩ (.pointer none)) tg hb { S with par := upd S.par b none }) := h.out.setPar hX none
  have G4 : Hid (Kp (fun k => k = hb ∨ k = b ∨ tg k = .fm (.rt (S.deg b))) w (w.setCell ⟨b, 4, none⟩ (.pointer none))) := Kp.of_set _ _ _ (.inr (.inl rfl))
  have HX : Hid (b ∈ S.X ∧ S.deg b < 29) := ⟨hX, hd⟩
  clear hX hp hd hB
  go_enter Try.func32, Try.ntmps32
  go_upto_region 1 with fail
  clear f2 e2
  generalize w.setCell ⟨b, 4, none⟩ (.pointer none) = W at *
  have HR : Hid (Calls Try.prog 40 #[.pointer (some ⟨hb, 0, none⟩), .pointer (some ⟨b, 0, none⟩)] W fun e w' => e = .returned (.pointer (some ⟨hb, 2 + S.deg b, none⟩)) ∧ Below W.heap.size W w' ∧ w'.heap.size = W.heap.size) := by
    obtain ⟨a, c, hk⟩ := h.out.kid HX.out.1
    exact row_any W hb b (S.deg b) c a _ (G1.out.nd b HX.out.1) hk HX.out.2
  have HJ : Hid (∀ w1, Below W.heap.size W w1 → Calls Try.prog 41 #[.pointer (some ⟨hb, 2 + S.deg b, none⟩), .pointer (some ⟨b, 0, none⟩)] w1 fun e w' => e = .returned (.tuple #[]) ∧ ∃ v tg', Hid (Mem w' tg' hb (S.raise b v) ∧ Chg (fun k => k = hb ∨ k = b ∨ tg k = .fm (.rt (S.deg b))) w w' tg tg')) := fun w1 b1 => by
    have hL : Lc { S with par := upd S.par b none } := ⟨hI.out.lc.fam, hI.out.lc.plc, hI.out.lc.slf⟩
    have hF : HS.val { S with par := upd S.par b none } (.rt (S.deg b)) := HX.out.2
    have hlen := fam_len hL hF
    refine (join_S (G1.out.keep b1) (F := .rt (S.deg b)) hF (b := b) HX.out.1 (by simp) (by have := hs.out; exact Nat.le_trans hlen (by show S.X.length ≤ _; omega))).mono ?_
    rintro e w' ⟨rfl, v, tg', m, c⟩
    refine ⟨rfl, v, tg', m, ?_⟩
    exact Chg.trans ⟨G4.out.trans (S' := fun _ => False) (Kp.of_below b1) (fun _ _ h => h.elim), fun _ _ => rfl⟩ c fun k _ hk => hk
  clear G1 G4 h hI hs
  go_wp2_with (first | (go_at_call 40; refine HR.out.mono ?_; rintro e w1 ⟨rfl, b1, _⟩) | (go_at_call 41; refine (HJ.out _ b1).mono ?_; rintro e w2 ⟨rfl, v, tg', R⟩))
  go_end0
  exact ⟨rfl, v, tg', R.out⟩
theorem Mem.n4 (h : Mem w tg hb S) {b : Nat} (hX : b ∈ S.X) : N4 w b (S.ky b) (S.hd b) := ⟨(h.nd b hX).cell 0 (by decide), (h.nd b hX).cell 1 (by decide), (h.nd b hX).cell 2 (by decide), (h.nd b hX).cell 3 (by decide)⟩
def HS.offer (S : HS) (b : Nat) : HS := match S.lst with
  | none => { S with lst := some b }
  | some m => if elB (S.ky b) (S.hd b) (S.ky m) (S.hd m) then { S with lst := some b } else S
set_option maxHeartbeats 1000000 in
theorem offer_no (h : Hid (Mem w tg hb S)) (b m : Nat) (hm : S.lst = some m) (HB : Hid (Calls Try.prog 38 #[.pointer (some ⟨b, 0, none⟩), .pointer (some ⟨m, 0, none⟩)] w fun e w' => e = .returned (.bool false) ∧ Below w.heap.size w w')) :
    Calls Try.prog 33 #[.pointer (some ⟨hb, 0, none⟩), .pointer (some ⟨b, 0, none⟩)] w fun e w' => e = .returned (.tuple #[]) ∧ Below w.heap.size w w' := by
  have e1 : w.cell? ⟨hb, 31, none⟩ = some (optp S.lst) := h.out.hp.cell 31 (by decide)
  rw [hm] at e1
  unfold optp ptr at e1
  go_enter Try.func33, Try.ntmps33
  go_wp2_with (go_at_call 38; refine HB.out.mono ?_; rintro e w1 ⟨rfl, b1⟩)
  go_end0
  exact ⟨rfl, b1⟩
set_option maxHeartbeats 1000000 in
theorem offer_yes (h : Hid (Mem w tg hb S)) (b m : Nat) (hm : S.lst = some m) (HB : Hid (Calls Try.prog 38 #[.pointer (some ⟨b, 0, none⟩), .pointer (some ⟨m, 0, none⟩)] w fun e w' => e = .returned (.bool true) ∧ Below w.heap.size w w')) :
    Calls Try.prog 33 #[.pointer (some ⟨hb, 0, none⟩), .pointer (some ⟨b, 0, none⟩)] w fun e w' => e = .returned (.tuple #[]) ∧ ∃ w1, Below w.heap.size w w1 ∧ w' = w1.setCell ⟨hb, 31, none⟩ (ptr b) := by
  have e1 : w.cell? ⟨hb, 31, none⟩ = some (optp S.lst) := h.out.hp.cell 31 (by decide)
  rw [hm] at e1
  unfold optp ptr at e1
  go_enter Try.func33, Try.ntmps33
  go_wp2_with (go_at_call 38; refine HB.out.mono ?_; rintro e w1 ⟨rfl, b1⟩; have HP := (h.out.keep b1).hp; have e3 := HP.cell 31 (by decide); have f3 := HP.fz 31; clear HP)
  go_end0
  exact ⟨rfl, w1, b1, rfl⟩
theorem offer_S (h : Mem w tg hb S) {b : Nat} (hX : b ∈ S.X) (hok : ∀ a ∈ S.X, (S.ky a).ok) (hl : ∀ m, S.lst = some m → m ∈ S.X) :
    Calls Try.prog 33 #[.pointer (some ⟨hb, 0, none⟩), .pointer (some ⟨b, 0, none⟩)] w fun e w' => e = .returned (.tuple #[]) ∧ Mem w' tg hb (S.offer b) ∧ Kp (· = hb) w w' := by
  cases hm : S.lst with
  | none =>
    refine (offer_none w hb b S.hpC h.hp (by show optp S.lst = _; rw [hm]; rfl)).mono ?_
    rintro e w' ⟨rfl, h1, h2⟩
    refine ⟨rfl, ?_, h2⟩
    unfold HS.offer
    rw [hm]
    refine h.head h2 _ rfl rfl rfl (fun c => rfl) (h1.same fun j hj => ?_)
    unfold fset HS.hpC
    simp only
    by_cases e : j = 31
    · subst e; simp [optp]
    · simp [e]
  | some m =>
    have hmX := hl m hm
    have HB := before_any w b m (S.ky b) (S.ky m) (S.hd b) (S.hd m) (hok b hX) (hok m hmX) (h.n4 hX) (h.n4 hmX)
    unfold HS.offer
    rw [hm]
    simp only
    by_cases e : elB (S.ky b) (S.hd b) (S.ky m) (S.hd m) = true
    · rw [if_pos e]
      rw [e] at HB
      refine (offer_yes h b m hm HB).mono ?_
      rintro e w' ⟨rfl, w1, b1, rfl⟩
      exact ⟨rfl, (h.keep b1).setLst (some b), (Kp.of_below (S := (· = hb)) b1).trans (Kp.of_set (S := (· = hb)) _ ⟨hb, 31, none⟩ _ rfl) fun _ _ h => h⟩
    · rw [if_neg e]
      rw [Bool.not_eq_true] at e
      rw [e] at HB
      refine (offer_no h b m hm HB).mono ?_
      rintro e w' ⟨rfl, b1⟩
      exact ⟨rfl, h.keep b1, Kp.of_below b1⟩
end
end Go.Proofs.Ytmcmldlnmmbbgaa
