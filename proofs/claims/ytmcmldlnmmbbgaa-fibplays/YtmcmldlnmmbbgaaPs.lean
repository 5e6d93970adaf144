/-
  The heap's cut.
-/
import Derived.Test.YtmcmldlnmmbbgaaPr
namespace Go.Proofs.Ytmcmldlnmmbbgaa
open Go.RowKit Go.Maps

/-- how many entries have a parent -/
def parN (w : World) (X : List Nat) : Nat := X.countP fun b => match w.cell? ⟨b, 4, none⟩ with
  | some (.pointer none) => false
  | _ => true
section
variable {w w' : World} {tg tg' : Nat → Tg} {hb : Nat} {S S' : HS} {wk : Option Nat} {Z : List Nat} {κ : Nat → K}
theorem parN_eq (h : Mem w tg hb S) : parN w S.X = S.X.countP fun b => (S.par b).isSome := by
  unfold parN
  refine List.countP_congr fun b hb' => ?_
  have : w.cell? ⟨b, 4, none⟩ = some (optp (S.par b)) := (h.nd b hb').cell 4 (by decide)
  rw [this]
  cases S.par b <;> simp [optp, ptr]
theorem count_upd {X : List Nat} {f : Nat → Option Nat} {c : Nat} (hc : c ∈ X) (hf : (f c).isSome = true) : X.countP (fun b => (upd f c none b).isSome) < X.countP fun b => (f b).isSome := by
  have h1 : X.countP (fun b => (upd f c none b).isSome) = X.countP fun b => (f b).isSome && !decide (b = c) := by
    refine List.countP_congr fun b _ => ?_
    by_cases e : b = c
    · subst e; rw [upd_same]; simp
    · rw [upd_other _ _ e]; simp [e]
  rw [h1]
  clear h1
  induction X with
  | nil => cases hc
  | cons a X ih =>
    rw [List.countP_cons, List.countP_cons]
    have hle : X.countP (fun b => (f b).isSome && !decide (b = c)) ≤ X.countP fun b => (f b).isSome := List.countP_mono_left fun b _ h => by simp at h; exact h.1
    by_cases e : a = c
    · subst e
      simp [hf]
      exact Nat.lt_succ_of_le (by simpa using hle)
    · have := ih ((List.mem_cons.1 hc).resolve_left (Ne.symm e))
      simp only [e, decide_false, Bool.not_false, Bool.and_true]
      omega
structure CutA (w wr : World) (tg : Nat → Tg) (hb e0 : Nat) (κ : Nat → K) (S : HS) (e : Nat) (S' : HS) (tg' : Nat → Tg) (wk : Option Nat) : Prop where
  m : Mem wr tg' hb S'
  i : Inv (S'.wky κ) wk []
  wo : wk = none ∨ wk = some e
  a : Alike S S'
  eo : e ∈ S.X
  z : e = e0 ∨ ∃ d, S'.pl e0 = some (.rt d)
  k : Chg (Mine tg) w wr tg tg'
def Cut (w wr : World) (tg : Nat → Tg) (hb e0 : Nat) (κ : Nat → K) (S : HS) (e : Nat) : Prop := ∃ S' tg' wk, CutA w wr tg hb e0 κ S e S' tg' wk
def CutP (w w' : World) (tg : Nat → Tg) (hb e0 : Nat) (κ : Nat → K) (S : HS) : Prop := ∃ S' tg' d, Mem w' tg' hb S' ∧ Inv (S'.wky κ) none [] ∧ Alike S S' ∧ S'.pl e0 = some (.rt d) ∧ Chg (Mine tg) w w' tg tg'
theorem CutA.done {e0 e : Nat} {wr : World} (h : CutA w wr tg hb e0 κ S e S' tg' wk) (hp : S'.par e = none) : CutP w wr tg hb e0 κ S := by
  have heX : e ∈ S'.X := by rw [h.a.X]; exact h.eo
  have hrt : ∃ d, S'.pl e = some (.rt d) := by
    cases q : S'.pl e with
    | none => exact absurd q (h.i.all e heX (by simp))
    | some F =>
      cases F with
      | rt d => exact ⟨d, rfl⟩
      | kd p => have q2 : S'.par e = some p := h.i.kd e heX p q; rw [hp] at q2; cases q2
  have hI : Inv (S'.wky κ) none [] := by
    rcases h.wo with q | q
    · have := h.i; rw [q] at this; exact this
    · have := h.i; rw [q] at this
      refine this.unweak fun r q2 => ?_
      obtain ⟨d, hd⟩ := hrt
      have q3 : S'.pl e = some (.kd r) := q2
      rw [hd] at q3; cases q3
  rcases h.z with q | ⟨d, q⟩
  · obtain ⟨d, hd⟩ := hrt
    exact ⟨S', tg', d, h.m, hI, h.a, by rw [← q]; exact hd, h.k⟩
  · exact ⟨S', tg', d, h.m, hI, h.a, q, h.k⟩
/-- behind part, within cut -/
theorem CutA.parted {e0 e p : Nat} {wr w2 : World} {S2 : HS} {tg2 : Nat → Tg} (h : CutA w wr tg hb e0 κ S e S' tg' wk) (hp : S'.par e = some p) (hpl : S'.pl e = some (.kd p)) (P : Prt wr w2 tg' tg2 hb p e κ S' S2) :
    p ∈ S.X ∧ (∃ d, S2.pl e0 = some (.rt d)) ∧ Alike S S2 ∧ Chg (Mine tg) w w2 tg tg2 ∧ parN w2 S.X < parN wr S.X := by
  have heX : e ∈ S'.X := by rw [h.a.X]; exact h.eo
  refine ⟨?_, ?_, h.a.trans P.a, h.k.then P.k, ?_⟩
  · rw [← h.a.X]; exact (h.i.lc.plc e heX _ hpl).1
  · by_cases q : e0 = e
    · rw [q]; exact P.rt
    · rcases h.z with q2 | ⟨d, q2⟩
      · exact absurd q2.symm q
      · exact P.oth e0 d q q2
  · have h1 := parN_eq h.m
    have h2 := parN_eq P.m
    rw [P.a.X, h.a.X] at h2
    rw [h.a.X] at h1
    rw [h1, h2, P.par]
    exact count_upd h.eo (by rw [hp]; rfl)
set_option maxHeartbeats 2000000 in
theorem cut_S (h : Hid (Mem w tg hb S)) (hI : Hid (Inv (S.wky κ) none [])) (hs : Hid (S.X.length ≤ 2000)) {e0 : Nat} (he : Hid (e0 ∈ S.X)) :
    Calls Try.prog 39 #[.pointer (some ⟨hb, 0, none⟩), .pointer (some ⟨e0, 0, none⟩)] w fun q w' => q = .returned (.tuple #[]) ∧ CutP w w' tg hb e0 κ S := by
  have C0 : Hid (Cut w w tg hb e0 κ S e0) := ⟨S, tg, none, h.out, hI.out, .inl rfl, Alike.refl S, he.out, .inl rfl, Chg.refl _ _ _⟩
  clear h hI
  go_enter Try.func39, Try.ntmps39
  go_wp2_with fail
  go_loopw [1] (fun ev wr => ∃ e : Nat, ev = .pointer (some ⟨e, 0, none⟩) ∧ Cut w wr tg hb e0 κ S e) (fun _ wr => parN wr S.X)
  case atStart => exact ⟨e0, rfl, C0.out⟩
  case round =>
    obtain ⟨e, rfl, S1, tg1, wk, hA⟩ := hrel
    have C1 : Hid (CutA w wr tg hb e0 κ S e S1 tg1 wk) := hA
    clear hA C0
    have heX : e ∈ S1.X := by rw [C1.out.a.X]; exact C1.out.eo
    have c4 : wr.cell? ⟨e, 4, none⟩ = some (optp (S1.par e)) := (C1.out.m.nd e heX).cell 4 (by decide)
    cases hp : S1.par e with
    | none =>
      rw [hp] at c4
      unfold optp at c4
      have HD : Hid (CutP w wr tg hb e0 κ S) := C1.out.done hp
      clear C1 hp heX
      go_wp2_with fail
      go_end0
      exact ⟨rfl, HD.out⟩
    | some p =>
      rw [hp] at c4
      unfold optp ptr at c4
      have hpl : S1.pl e = some (.kd p) := by
        cases q : S1.pl e with
        | none => exact absurd q (C1.out.i.all e heX (by simp))
        | some F =>
          cases F with
          | rt d => have q2 : S1.par e = none := (C1.out.i.rt e heX d q).2; rw [hp] at q2; cases q2
          | kd p' => have q2 : S1.par e = some p' := C1.out.i.kd e heX p' q; rw [hp] at q2; rw [Option.some.inj q2]
      have H51 : Hid (Calls Try.prog 51 #[.pointer (some ⟨hb, 0, none⟩), .pointer (some ⟨p, 0, none⟩), .pointer (some ⟨e, 0, none⟩)] wr fun q w2 => q = .returned (.tuple #[]) ∧ ∃ (S2 : HS) (tg2 : Nat → Tg), w2.cell? ⟨p, 7, none⟩ = some (.bool (S2.lost p)) ∧ w2.frozen? ⟨p, 7, none⟩ = false ∧ Hid (p ∈ S.X ∧ (∃ d, S2.pl e0 = some (.rt d)) ∧ Alike S S2 ∧ Chg (Mine tg) w w2 tg tg2 ∧ parN w2 S.X < parN wr S.X ∧ Mem w2 tg2 hb S2 ∧ Inv (S2.wky κ) (some p) [])) := by
        refine (part_S C1.out.m C1.out.i (by rw [C1.out.a.X]; exact hs.out) heX hpl C1.out.wo).mono ?_
        rintro q w2 ⟨rfl, S2, tg2, P⟩
        obtain ⟨k1, k2, k3, k4, k5⟩ := C1.out.parted hp hpl P
        have hpX2 : p ∈ S2.X := by rw [k3.X]; exact k1
        exact ⟨rfl, S2, tg2, (P.m.nd p hpX2).cell 7 (by decide), (P.m.nd p hpX2).fz 7, k1, k2, k3, k4, k5, P.m, P.i⟩
      clear C1 hp heX hpl
      go_upto_region 3 with (go_at_call 51; refine H51.out.mono ?_; first | rintro q w2 rfl S2 tg2 c7 f7 H2 | rintro q w2 ⟨rfl, S2, tg2, c7, f7, H2⟩)
      cases hl : S2.lost p with
      | false =>
        rw [hl] at c7
        have HD : Hid (CutP w (w2.setCell ⟨p, 7, none⟩ (.bool true)) tg hb e0 κ S) := by
          obtain ⟨k1, ⟨d, k2⟩, k3, k4, k5, k6, k7⟩ := H2.out
          have hpX2 : p ∈ S2.X := by rw [k3.X]; exact k1
          exact ⟨{ S2 with lost := upd S2.lost p true }, tg2, d, k6.setLost hpX2 true, k7.losing hl, ⟨k3.X, k3.hd, k3.ky, k3.gv, k3.mb, k3.lst⟩, k2, k4.then ⟨Kp.of_set _ _ _ (k6.mine_nd hpX2), fun _ _ => rfl⟩⟩
        clear H2 hl
        go_wp2_with fail
        exact bodyPost_ret (results_none rfl _ _ _) rfl ⟨rfl, HD.out⟩
      | true =>
        rw [hl] at c7
        have HC : Hid (Cut w w2 tg hb e0 κ S p ∧ parN w2 S.X < parN wr S.X) := by
          obtain ⟨k1, k2, k3, k4, k5, k6, k7⟩ := H2.out
          exact ⟨⟨S2, tg2, some p, k6, k7, .inr rfl, k3, k1, .inr k2, k4⟩, k5⟩
        clear H2 hl
        go_wp2_with fail
        exact ⟨⟨p, rfl, HC.out.1⟩, HC.out.2⟩
theorem wky_self (S : HS) : S.wky S.ky = S := rfl
theorem wky_alike (a : Alike S S') : S'.wky S.ky = S' := by
  unfold HS.wky
  rw [← a.ky]
/-- remove, of any entry -/
theorem remove_any (h : Hp w tg hb S) (hs : S.X.length ≤ 2000) {e m : Nat} (he : e ∈ S.X) (hm : S.lst = some m) :
    Calls Try.prog 34 #[.pointer (some ⟨hb, 0, none⟩), .pointer (some ⟨e, 0, none⟩)] w fun q w' => q = .returned (.tuple #[]) ∧ ∃ S' tg', Gone w w' tg tg' hb e S S' := by
  refine remove_S (h := h) (hs := hs) (he := he) (hm := hm) ?_
  refine (cut_S (κ := S.ky) h.m (by rw [wky_self]; exact h.i) hs he).mono ?_
  rintro q w1 ⟨rfl, S1, tg1, d, m1, i1, a1, p1, c1⟩
  rw [wky_alike a1] at i1
  exact ⟨rfl, S1, tg1, d, m1, i1, a1, p1, c1⟩
end
end Go.Proofs.Ytmcmldlnmmbbgaa
