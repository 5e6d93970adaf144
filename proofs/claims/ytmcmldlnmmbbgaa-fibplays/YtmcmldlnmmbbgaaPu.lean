/-
  Get, Decrease, Delete over what a heap holds.
-/
import Derived.Test.YtmcmldlnmmbbgaaPt
import Derived.Test.YtmcmldlnmmbbgaaPp
namespace Go.Proofs.Ytmcmldlnmmbbgaa
open Go.RowKit Go.Maps
section
variable {w w' : World} {tg tg' : Nat → Tg} {hb g n : Nat} {C : Ct} {S S' : HS} {T : Nat → Prop} {wr : World}
theorem Hc.find (h : Hc w tg hb C g n S) (x : Int) (hx : (Lit.int .i64 x).wf = true) : Calls Try.prog 36 #[.pointer (some ⟨hb, 0, none⟩), .int .i64 x] w fun e w' => e = .returned (optp (S.at x)) ∧ w' = w := find_S h.h.m h.h.p x hx
theorem get_C (h : Hc w tg hb C g n S) (x : Int) (hx : (Lit.int .i64 x).wf = true) : Calls Try.prog 18 #[.pointer (some ⟨hb, 0, none⟩), .int .i64 x] w fun e w' => (match C x with
    | some k => e = .returned (.tuple #[ktup k.n k.d k.t, .int .i64 0])
    | none => e = .returned (.tuple #[ktup 0 0 0, .int .i64 3])) ∧ Below w.heap.size w w' := by
  rw [← h.c]
  unfold HS.cont
  cases ha : S.at x with
  | none =>
    exact get_none x hb fun w1 b1 => by have := (h.keep b1).find x hx; rw [ha] at this; exact this
  | some b =>
    obtain ⟨hbX, _⟩ := at_some ha
    have N := h.h.m.n4 hbX
    exact get_some x hb b _ _ _ (fun w1 b1 => by have := (h.keep b1).find x hx; rw [ha] at this; exact this) N.c1 N.c2 N.c3
theorem wf_nat {x : Nat} (h : x ≤ 1048576) : (Lit.int .i64 (x : Int)).wf = true := by simp [Lit.wf, IntKind.min, IntKind.max, IntKind.bits, IntKind.signed]; omega
theorem dec_fin (h : Hc w tg hb C g n S) {b x : Nat} {k : K} (hbX : b ∈ S.X) (hbx : S.hd b = x) (hk : k.ok) (hle : ¬ kl (S.ky b) k) {w1 w5 : World} {S5 : HS} {tg5 : Nat → Tg} (b1 : Below w.heap.size w w1) (M5 : Mem w5 tg5 hb S5) (I5 : Inv S5 none []) (a5 : Alike { S with ky := upd S.ky b k } S5) (c5 : Chg (Mine tg) w1 w5 tg tg5) :
    Calls Try.prog 33 #[.pointer (some ⟨hb, 0, none⟩), .pointer (some ⟨b, 0, none⟩)] w5 fun e w' => e = .returned (.tuple #[]) ∧ Hid (∃ S' tg', Hc w' tg' hb (C.put x k) g n S' ∧ Chg (fun k => tg k ≠ .no) w w' tg tg') := by
  have hX5 : S5.X = S.X := a5.X
  have hb5 : b ∈ S5.X := by rw [hX5]; exact hbX
  have se5 : Seen S5 (fun c => c ∈ S.X ∧ c ≠ b) := h.h.l.rekey h.h.i.ok (S' := S5) a5.ky hk hX5 a5.hd a5.lst hbX hle
  refine (offer_S M5 hb5 I5.ok (fun m q => (se5.some m q).1)).mono ?_
  rintro e w' ⟨rfl, M6, k6⟩
  obtain ⟨a1, a2, a3, a4, a5', a6, a7, a8⟩ := offer_alike S5 b
  have c6 : Chg (Mine tg5) w5 w' tg5 tg5 := ⟨k6.mono fun c _ q => by rw [show c = hb from q]; exact M5.mine_loc (F := .rt 0) (by show 0 < 29; decide), fun _ _ => rfl⟩
  have hc1 : Chg (Mine tg) w w5 tg tg5 := (Chg.below b1).then c5
  have hp5 : Mp w5 tg5 { S with ky := upd S.ky b k } := by
    have := h.h.p.chg hc1 (S' := S) (Alik.refl _)
    unfold Mp at this ⊢
    cases hm : S.mb with
    | none => rw [hm] at this; exact this
    | some m =>
      rw [hm] at this
      obtain ⟨M, hM⟩ := this
      exact ⟨M, hM.t, hM.o, hM.n, hM.a⟩
  have hI6 := I5.offer b
  refine ⟨rfl, S5.offer b, tg5, ⟨⟨M6, (hp5.chg (Chg.refl _ _ _) a5.k).chg c6 ⟨a1, a4, a5', a6, a7⟩, hI6, ?_⟩, ?_, by rw [a6, a5.gv]; exact h.g, by rw [a1, hX5]; exact h.n⟩, (hc1.then c6).any⟩
  · refine (se5.offer I5 (fun c hc => by rw [hX5]; exact hc.1) hb5).iff fun c hc => ?_
    rw [a1, hX5] at hc
    by_cases q : c = b
    · exact .inr q
    · exact .inl ⟨hc, q⟩
  · have hhd : (S5.offer b).hd = S.hd := a4.trans a5.hd
    have hky : (S5.offer b).ky = upd S.ky b k := a5'.trans a5.ky
    have hXX : (S5.offer b).X = S.X := a1.trans hX5
    funext y
    refine cont_eq hI6.hu (fun k' q => ?_) (fun q c hc => ?_)
    · unfold Ct.put at q
      split at q
      · rename_i ey
        exact ⟨b, by rw [hXX]; exact hbX, by rw [hhd, hbx, ey], by rw [hky, upd_same]; exact Option.some.inj q⟩
      · rename_i ey
        rw [← h.c] at q
        obtain ⟨c, k1, k2, k3⟩ := cont_some q
        have hcb : c ≠ b := fun q' => ey (by rw [← k2, q', hbx])
        exact ⟨c, by rw [hXX]; exact k1, by rw [hhd]; exact k2, by rw [hky, upd_other _ _ hcb]; exact k3⟩
    · unfold Ct.put at q
      split at q
      · cases q
      · rw [← h.c] at q
        rw [hXX] at hc
        rw [hhd]
        exact cont_none q c hc
theorem dec_C (h : Hc w tg hb C g n S) {x : Nat} {k old : K} (hx : C x = some old) (hk : k.ok) (hle : ¬ kl old k) (hn : n ≤ 2000) :
    Calls Try.prog 19 #[.pointer (some ⟨hb, 0, none⟩), .int .i64 x, .agg #[.int .u64 k.n, .int .u64 k.d, .int .i64 k.t]] w fun e w' => e = .returned (.int .i64 0) ∧ ∃ S' tg', Hc w' tg' hb (C.put x k) g n S' ∧ Chg (fun k => tg k ≠ .no) w w' tg tg' := by
  have hx' := hx
  rw [← h.c] at hx'
  obtain ⟨b, hbX, hbx0, hbk⟩ := cont_some hx'
  have hbx : S.hd b = x := by omega
  have hat : S.at (x : Int) = some b := by rw [← hbx0]; exact at_of h.h.i.hu hbX
  have hwf : (Lit.int .i64 (x : Int)).wf = true := wf_nat (by have h1 := h.h.i.hg b hbX; have h2 := h.h.i.gb; omega)
  have hle' : ¬ kl (S.ky b) k := by rw [hbk]; exact hle
  have hs : S.X.length ≤ 2000 := by rw [h.n]; exact hn
  refine dec_raw w hb b x k (S.ky b) (S.par b) (kc k (S.ky b)) _ (fun q => hle' (kc_pos.1 q)) (fun w1 b1 => ?_) (fun w1 => ?_) (fun w1 => compare_keys k (S.ky b) hk (h.h.i.ok b hbX) w1) (fun w1 b1 => ?_)
  · have := (h.keep b1).find x hwf
    rw [hat] at this
    exact this
  · have := formed_any k.n k.d k.t w1
    rw [show ((k.d : Int) != 0) = true by simp; exact hk.z] at this
    exact this
  · have hk1 := h.keep b1
    have hB := hk1.h.m.nd b hbX
    have M4 := hk1.h.m.setKey hbX k
    have cK : Chg (Mine tg) w1 (((w1.setCell ⟨b, 1, none⟩ (.int .u64 k.n)).setCell ⟨b, 2, none⟩ (.int .u64 k.d)).setCell ⟨b, 3, none⟩ (.int .i64 k.t)) tg tg := ⟨((Kp.of_set (S := Mine tg) w1 ⟨b, 1, none⟩ _ (hk1.h.m.mine_nd hbX)).trans (Kp.of_set (S := Mine tg) _ ⟨b, 2, none⟩ _ (hk1.h.m.mine_nd hbX)) fun _ _ h => h).trans (Kp.of_set (S := Mine tg) _ ⟨b, 3, none⟩ _ (hk1.h.m.mine_nd hbX)) fun _ _ h => h, fun _ _ => rfl⟩
    refine ⟨hB.cell 1 (by decide), hB.cell 2 (by decide), hB.cell 3 (by decide), hB.fz 1, hB.fz 2, hB.fz 3, (M4.nd b hbX).cell 4 (by decide), ?_⟩
    generalize ((w1.setCell ⟨b, 1, none⟩ (.int .u64 k.n)).setCell ⟨b, 2, none⟩ (.int .u64 k.d)).setCell ⟨b, 3, none⟩ (.int .i64 k.t) = W at *
    have hI0 : Inv (HS.wky { S with ky := upd S.ky b k } S.ky) none [] := h.h.i
    have hplk : ∀ p, S.pl b = some (.kd p) → S.par b = some p := fun p q => h.h.i.kd b hbX p q
    unfold DecP
    cases hp : S.par b with
    | none =>
      simp only
      have I1 : Inv { S with ky := upd S.ky b k } none [] := hI0.rekey rfl hk hbX hle' fun p q => by have := hplk p q; rw [hp] at this; cases this
      exact dec_fin h hbX hbx hk hle' b1 M4 I1 (Alike.refl _) cK
    | some p =>
      simp only
      have hpl : S.pl b = some (.kd p) := by
        cases q : S.pl b with
        | none => exact absurd q (h.h.i.all b hbX (by simp))
        | some F =>
          cases F with
          | rt d => have q2 : S.par b = none := (h.h.i.rt b hbX d q).2; rw [hp] at q2; cases q2
          | kd p' => have q2 := hplk p' q; rw [hp] at q2; rw [Option.some.inj q2]
      have hpX : p ∈ S.X := (h.h.i.lc.plc b hbX _ hpl).1
      have hpb : p ≠ b := fun e => h.h.i.lc.slf b hbX (by rw [hpl, e])
      have okS : ∀ a ∈ S.X, (upd S.ky b k a).ok := fun a ha => by
        by_cases e : a = b
        · subst e; rw [upd_same]; exact hk
        · rw [upd_other _ _ e]; exact h.h.i.ok a ha
      refine ⟨elB (upd S.ky b k b) (S.hd b) (upd S.ky b k p) (S.hd p), ?_⟩
      refine (before_any W b p _ _ _ _ (okS b hbX) (okS p hpX) (M4.n4 hbX) (M4.n4 hpX)).mono ?_
      rintro e w2 ⟨rfl, b2⟩
      refine ⟨rfl, ?_⟩
      have M5 := M4.keep b2
      have c5 : Chg (Mine tg) w1 w2 tg tg := cK.then (Chg.below b2)
      cases q : elB (upd S.ky b k b) (S.hd b) (upd S.ky b k p) (S.hd p) with
      | true =>
        show Calls Try.prog 39 _ w2 _
        refine (cut_S (S := { S with ky := upd S.ky b k }) (κ := S.ky) M5 hI0 hs hbX).mono ?_
        rintro e w3 ⟨rfl, S2, tg2, d, m2, i2, a2, p2, c3⟩
        refine ⟨rfl, ?_⟩
        have I2 : Inv S2 none [] := i2.rekey (b := b) (k := k) a2.ky hk (by rw [a2.X]; exact hbX) hle' fun p' q' => by rw [p2] at q'; cases q'
        exact dec_fin h hbX hbx hk hle' b1 m2 I2 a2 (c5.then c3)
      | false =>
        show Calls Try.prog 33 _ w2 _
        have I1 : Inv { S with ky := upd S.ky b k } none [] := hI0.rekey rfl hk hbX hle' fun p' q' => by
          have q2 : S.pl b = some (.kd p') := q'
          rw [hpl] at q2
          have e : p = p' := by simpa using q2
          subst e
          rcases el_tri (upd S.ky b k p) (S.hd p) (upd S.ky b k b) (S.hd b) (fun e => hpb (h.h.i.hu p hpX b hbX e)) with r | r
          · exact r
          · exact absurd r (elB_no.1 q)
        exact dec_fin h hbX hbx hk hle' b1 M5 I1 (Alike.refl _) c5
theorem lw_get (h : Lw w wr hb C g n T) (x : Int) (hx : (Lit.int .i64 x).wf = true) : Calls Try.prog 18 #[.pointer (some ⟨hb, 0, none⟩), .int .i64 x] wr fun e w' => (match C x with
    | some k => e = .returned (.tuple #[ktup k.n k.d k.t, .int .i64 0])
    | none => e = .returned (.tuple #[ktup 0 0 0, .int .i64 3])) ∧ Below wr.heap.size wr w' := by
  obtain ⟨S, tg, h⟩ := h
  exact get_C h.h x hx
theorem lw_dec (h : Lw w wr hb C g n T) {x : Nat} {k old : K} (hx : C x = some old) (hk : k.ok) (hle : ¬ kl old k) (hn : n ≤ 2000) :
    Calls Try.prog 19 #[.pointer (some ⟨hb, 0, none⟩), .int .i64 x, .agg #[.int .u64 k.n, .int .u64 k.d, .int .i64 k.t]] wr fun e w' => e = .returned (.int .i64 0) ∧ Lw w w' hb (C.put x k) g n T ∧ ∀ k, T k → w'.heap[k]? = wr.heap[k]? := by
  obtain ⟨S, tg, h⟩ := h
  refine (dec_C h.h hx hk hle hn).mono ?_
  rintro e w' ⟨rfl, S', tg', h1, c1⟩
  obtain ⟨h2, h3⟩ := h.step h1 c1
  exact ⟨rfl, ⟨S', tg', h2⟩, h3⟩
theorem lw_min (h : Lw w wr hb C g n T) (hn : n ≠ 0) : ∃ (x : Nat) (k : K), C.min x k ∧ k.ok ∧ x < 1048576 ∧ Calls Try.prog 20 #[.pointer (some ⟨hb, 0, none⟩)] wr fun e w' => e = .returned (.tuple #[.int .i64 x, .agg #[.int .u64 k.n, .int .u64 k.d, .int .i64 k.t], .int .i64 0]) ∧ Below wr.heap.size wr w' := by
  obtain ⟨S, tg, h⟩ := h
  obtain ⟨m, h1, h2, h3, h4⟩ := min_C h.h hn
  exact ⟨S.hd m, S.ky m, h3, h.h.h.i.ok m h2, by have q1 := h.h.h.i.hg m h2; have q2 := h.h.h.i.gb; omega, h4⟩
/-- a heap that holds something isn't empty -/
theorem Lw.some (h : Lw w wr hb C g n T) {x : Int} {k : K} (hx : C x = some k) : n ≠ 0 ∧ k.ok ∧ ∃ y : Nat, x = y ∧ y < g := by
  obtain ⟨S, tg, h⟩ := h
  rw [← h.h.c] at hx
  obtain ⟨b, h1, h2, h3⟩ := cont_some hx
  refine ⟨fun q => ?_, by rw [← h3]; exact h.h.h.i.ok b h1, S.hd b, h2.symm, by rw [← h.h.g]; exact h.h.h.i.hg b h1⟩
  have := h.h.n
  rw [q] at this
  rw [List.eq_nil_of_length_eq_zero this] at h1
  cases h1
end
end Go.Proofs.Ytmcmldlnmmbbgaa
