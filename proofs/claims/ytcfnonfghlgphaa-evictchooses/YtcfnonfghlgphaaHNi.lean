/-
  below. sink, rise. mend. The heap whole: its map, its order; add.
-/
import Derived.Test.YtcfnonfghlgphaaHNe
namespace Go.Proofs.Ytcfnonfghlgphaa.Hp
open Go.RowKit Go.Maps

/-- what below has seen of the children ahead of k -/
structure Bl (n s : Nat) (v : Nat → Int) (c k f : Nat) : Prop where
  ff : f = c ∨ (1 ≤ f ∧ up f = c ∧ AA n s v f < AA n s v c)
  fn : 2 * f < n
  mc : AA n s v f ≤ AA n s v c
  me : ∀ e, 1 ≤ e → 2 * e < n → up e = c → e < k → AA n s v f ≤ AA n s v e
section
variable {n s c k f : Nat} {v : Nat → Int}
theorem Bl.start (hc : 2 * c < n) : Bl n s v c (2 * c + 1) c := ⟨.inl rfl, hc, Int.le_refl _, fun e h1 _ h2 h3 => by unfold up at h2; omega⟩
theorem Bl.yes (h : Bl n s v c k f) (hk : up k = c) (k1 : 1 ≤ k) (hn : 2 * k < n) (hl : AA n s v k < AA n s v f) : Bl n s v c (k + 1) k := by
  have := h.mc
  refine ⟨.inr ⟨k1, hk, by omega⟩, hn, by omega, fun e h1 h2 h3 h4 => ?_⟩
  by_cases q : e = k
  · subst q; exact Int.le_refl _
  · have := h.me e h1 h2 h3 (by omega); omega
theorem Bl.no (h : Bl n s v c k f) (hl : ¬ AA n s v k < AA n s v f) : Bl n s v c (k + 1) f := by
  refine ⟨h.ff, h.fn, h.mc, fun e h1 h2 h3 h4 => ?_⟩
  by_cases q : e = k
  · subst q; omega
  · exact h.me e h1 h2 h3 (by omega)
theorem Bl.out (h : Bl n s v c k f) (hk : 2 * c + 2 < k ∨ n ≤ 2 * k) : Bl n s v c (2 * c + 3) f := ⟨h.ff, h.fn, h.mc, fun e h1 h2 h3 h4 => h.me e h1 h2 h3 (by unfold up at h3; omega)⟩
end
theorem outB_eq {S : HS} {s i j : Nat} (hs : s ≤ 1) (hi : 2 * i < S.l.length) (hj : 2 * j < S.l.length) : outB S s (P S.l.length s i) (P S.l.length s j) = decide (AA S.l.length s S.v i < AA S.l.length s S.v j) := by
  unfold outB
  rw [AA_eq hi hs, AA_eq hj hs]
set_option maxHeartbeats 1000000 in
theorem below_raw (w : World) (hb n c0 s c pa : Nat) (a : Option Addr) (v : Nat → Int) (c2 : w.cell? ⟨hb, 2, none⟩ = some (.slice a n c0)) (hn : n ≤ 1048576) (hs : s ≤ 1) (hc : 2 * c < n) (hpa : pa = P n s c)
    (H39 : Hid (∀ p m, 2 * p < n → Calls Try.prog 78 #[.pointer (some ⟨hb, 0, none⟩), .int .i64 p, .int .i64 s] (w.drewN m) fun e w' => e = .returned (.int .i64 (P n s p)) ∧ w' = w.drewN m))
    (H42 : Hid (∀ i j m, 2 * i < n → 2 * j < n → Calls Try.prog 84 #[.pointer (some ⟨hb, 0, none⟩), .int .i64 (P n s i), .int .i64 (P n s j), .int .i64 s] (w.drewN m) fun e w' => e = .returned (.bool (decide (AA n s v i < AA n s v j))) ∧ ∃ m', w' = (w.drewN m).drewN m')) :
    Calls Try.prog 85 #[.pointer (some ⟨hb, 0, none⟩), .int .i64 pa, .int .i64 s] w fun e w' => ∃ f, e = .returned (.int .i64 (P n s f)) ∧ Bl n s v c (2 * c + 3) f ∧ ∃ m, w' = w.drewN m := by
  have q1 : (pa : Int) / 2 = (c : Int) := by rw [hpa]; unfold P; omega
  have q0 : 0 ≤ (pa : Int) := by omega
  have q2 : (pa : Int) ≤ 1048576 := by rw [hpa]; have := P_lt (s := s) hc; omega
  have q3 : (c : Int) ≤ 1048576 := by omega
  have HPA : Hid (pa = P n s c) := hpa
  have HNN : Hid (n ≤ 1048576 ∧ 2 * c < n) := ⟨hn, hc⟩
  clear hpa hs hn hc
  go_enter Try.func85, Try.ntmps85
  go_wp2_with fail
  go_loopw [8, 9] (fun t8 t9 wr => ∃ f k : Nat, t8 = .int .i64 (P n s f) ∧ t9 = .int .i64 k ∧ 2 * c + 1 ≤ k ∧ k ≤ 2 * c + 3 ∧ Hid (Bl n s v c k f) ∧ ∃ m, wr = w.drewN m) (fun _ t9 _ => 2 * c + 3 - (intOf t9).toNat)
  case atStart => exact ⟨c, 2 * c + 1, by rw [HPA.out], by go_num, by omega, by omega, Bl.start HNN.out.2, 0, rfl⟩
  case round =>
    obtain ⟨f, k, rfl, rfl, hk1, hk2, HB, m, rfl⟩ := hrel
    have k1 : (k : Int) ≤ 3000000 := by have := HNN.out; omega
    have cd : (w.drewN m).cell? ⟨hb, 2, none⟩ = some (.slice a n c0) := c2
    have HW : Hid (∀ n, ∃ k, (w.drewN m).drewN n = w.drewN k) := drew2 m
    by_cases hk3 : k ≤ 2 * c + 2
    · have g1 : (k : Int) ≤ 2 * (c : Int) + 2 := by omega
      by_cases hk4 : 2 * k < n
      · have g2 : 2 * (k : Int) < (n : Int) := by omega
        have HE := H39.out k m hk4
        have hup : Hid (up k = c) := by unfold Hid up; omega
        have HO : Hid (Calls Try.prog 84 #[.pointer (some ⟨hb, 0, none⟩), .int .i64 (P n s k), .int .i64 (P n s f), .int .i64 s] (w.drewN m) fun e w' => e = .returned (.bool (decide (AA n s v k < AA n s v f))) ∧ ∃ m', w' = (w.drewN m).drewN m') := H42.out k f m hk4 HB.out.fn
        generalize w.drewN m = W at *
        by_cases hl : AA n s v k < AA n s v f
        · rw [decide_eq_true hl] at HO
          have B2 : Hid (Bl n s v c (k + 1) k) := HB.out.yes hup.out (by omega) hk4 hl
          clear hl HB
          go_wp2_with (first | (go_at_call 78; refine HE.mono ?_; rintro e w1 ⟨rfl, rfl⟩) | (go_at_call 84; refine HO.out.mono ?_; rintro e w1 ⟨rfl, m', rfl⟩))
          exact ⟨⟨k, k + 1, rfl, by go_num, by omega, by omega, B2, HW.out _⟩, by simp [intOf]; omega⟩
        · rw [decide_eq_false hl] at HO
          have B2 : Hid (Bl n s v c (k + 1) f) := HB.out.no hl
          clear hl HB
          go_wp2_with (first | (go_at_call 78; refine HE.mono ?_; rintro e w1 ⟨rfl, rfl⟩) | (go_at_call 84; refine HO.out.mono ?_; rintro e w1 ⟨rfl, m', rfl⟩))
          exact ⟨⟨f, k + 1, rfl, by go_num, by omega, by omega, B2, HW.out _⟩, by simp [intOf]; omega⟩
      · have g2 : ¬ 2 * (k : Int) < (n : Int) := by omega
        have B2 : Hid (Bl n s v c (2 * c + 3) f) := HB.out.out (.inr (by omega))
        have HM : Hid (∃ m', w.drewN m = w.drewN m') := ⟨m, rfl⟩
        generalize w.drewN m = W at *
        clear HB
        go_wp2_with fail
        go_ret
        exact ⟨f, rfl, B2.out, HM.out⟩
    · have g1 : ¬ (k : Int) ≤ 2 * (c : Int) + 2 := by omega
      have B2 : Hid (Bl n s v c (2 * c + 3) f) := HB.out.out (.inl (by omega))
      have HM : Hid (∃ m', w.drewN m = w.drewN m') := ⟨m, rfl⟩
      generalize w.drewN m = W at *
      clear HB
      go_wp2_with fail
      go_ret
      exact ⟨f, rfl, B2.out, HM.out⟩
section
variable {w w' : World} {hb : Nat} {S : HS}
theorem below_S (h : Mem w hb S) {c s : Nat} (hs : s ≤ 1) (hc : 2 * c < S.l.length) :
    Calls Try.prog 85 #[.pointer (some ⟨hb, 0, none⟩), .int .i64 (P S.l.length s c), .int .i64 s] w fun e w' => ∃ f, e = .returned (.int .i64 (P S.l.length s f)) ∧ Bl S.l.length s S.v c (2 * c + 3) f ∧ ∃ m, w' = w.drewN m := by
  obtain ⟨a, c0, e⟩ := h.fm.shape
  refine below_raw w hb S.l.length c0 s c _ a S.v (by rw [h.c2, e]) h.sm hs hc rfl (fun p m hp => ?_) (fun i j m hi hj => ?_)
  · exact end_S (h.drew m) hp hs
  · rw [← outB_eq hs hi hj]
    exact out_S (h.drew m) (P_lt hi) (P_lt hj) hs
end
end Go.Proofs.Ytcfnonfghlgphaa.Hp

namespace Go.Proofs.Ytcfnonfghlgphaa.Hp
open Go.RowKit Go.Maps

/-- while one sinks, while one rises, behind it -/
structure Sk (w wr : World) (hb : Nat) (S : HS) (s : Nat) (Q : Nat → Prop) (p c : Nat) (l : List Nat) : Prop where
  mv : Mv w wr hb S l
  i : Snk S.l.length (AA S.l.length s (S.wl l).v) (BB S.l.length s (S.wl l).v) Q p c
structure Ri (w wr : World) (hb : Nat) (S : HS) (s : Nat) (Q : Nat → Prop) (p c : Nat) (l : List Nat) : Prop where
  mv : Mv w wr hb S l
  i : Rsn S.l.length (AA S.l.length s (S.wl l).v) (BB S.l.length s (S.wl l).v) Q p c
section
variable {w w' wr w1 w2 : World} {hb s p c f : Nat} {S S' S1 S2 : HS} {l l1 l2 : List Nat} {Q : Nat → Prop}
theorem Sk.below (h : Sk w wr hb S s Q p c l) (hs : s ≤ 1) : Calls Try.prog 85 #[.pointer (some ⟨hb, 0, none⟩), .int .i64 (P S.l.length s c), .int .i64 s] wr fun e w' => ∃ f, e = .returned (.int .i64 (P S.l.length s f)) ∧ Bl S.l.length s (S.wl l).v c (2 * c + 3) f ∧ ∃ m, w' = wr.drewN m := by
  have hl := h.mv.len
  have := below_S (c := c) h.mv.m hs (by show 2 * c < l.length; rw [hl]; exact h.i.hc)
  rw [show (S.wl l).l.length = S.l.length from hl] at this
  exact this
theorem Sk.stop (h : Sk w wr hb S s Q p c l) (hB : Bl S.l.length s (S.wl l).v c (2 * c + 3) c) (m : Nat) : Ri w (wr.drewN m) hb S s Q p p l :=
  ⟨h.mv.drew m, h.i.done fun e e1 e2 e3 => hB.me e e1 e2 e3 (by unfold up at e3; omega)⟩
theorem Sk.go (h : Sk w wr hb S s Q p c l) (hs : s ≤ 1) (hB : Bl S.l.length s (S.wl l).v c (2 * c + 3) f) (hne : f ≠ c) (m : Nat) :
    Calls Try.prog 82 #[.pointer (some ⟨hb, 0, none⟩), .int .i64 (P S.l.length s c), .int .i64 (P S.l.length s f)] (wr.drewN m) fun e w1 => e = .returned (.tuple #[]) ∧ Hid (Calls Try.prog 76 #[.pointer (some ⟨hb, 0, none⟩), .int .i64 f] w1 fun e w2 => e = .returned (.tuple #[]) ∧ Hid (∃ l', Sk w w2 hb S s Q p f l')) := by
  have hl := h.mv.len
  have hfn := hB.fn
  obtain ⟨f1, fc, flt⟩ := hB.ff.resolve_left hne
  have hic : P S.l.length s c < (S.wl l).l.length := by show _ < l.length; rw [hl]; exact P_lt h.i.hc
  have hif : P S.l.length s f < (S.wl l).l.length := by show _ < l.length; rw [hl]; exact P_lt hfn
  refine (swap_S (h.mv.m.drew m) hic hif).mono ?_
  rintro e w1 ⟨rfl, M1⟩
  refine ⟨rfl, ?_⟩
  have hl1 : (lsw (S.wl l).l (P S.l.length s c) (P S.l.length s f)).length = S.l.length := lsw_length.trans hl
  have hv := lsw_v (S.wl l) hic hif
  generalize lsw (S.wl l).l (P S.l.length s c) (P S.l.length s f) = l1 at *
  refine (turn_S (p := f) M1.m (by show 2 * f < l1.length; rw [hl1]; exact hfn)).mono ?_
  rintro e w2 ⟨rfl, l2, M2, hv2⟩
  refine ⟨rfl, l2, ((h.mv.drew m).trans M1).trans M2, ?_⟩
  have e2 : (S.wl l2).v = tn S.l.length (sw (S.wl l).v (P S.l.length s c) (P S.l.length s f)) f := by
    have q1 : (((S.wl l).wl l1).wl l2).v = tn l1.length ((S.wl l).wl l1).v f := hv2
    rw [hl1, hv] at q1
    exact q1
  rw [e2]
  exact snk_step hs h.i f1 hfn fc flt fun e e1 e2 e3 => hB.me e e1 e2 e3 (by unfold up at e3; omega)
theorem Ri.endq (h : Ri w wr hb S s Q p c l) (hs : s ≤ 1) (c1 : 1 ≤ c) : Calls Try.prog 78 #[.pointer (some ⟨hb, 0, none⟩), .int .i64 (up c), .int .i64 s] wr fun e w' => e = .returned (.int .i64 (P S.l.length s (up c))) ∧ w' = wr := by
  have hl := h.mv.len
  have hcn : 2 * c < S.l.length := by have := h.i.cp; have := h.i.hp; omega
  have := end_S (p := up c) h.mv.m (by show 2 * up c < l.length; rw [hl]; have := up_lt c1; omega) hs
  rw [show (S.wl l).l.length = S.l.length from hl] at this
  exact this
theorem Ri.outq (h : Ri w wr hb S s Q p c l) (hs : s ≤ 1) (c1 : 1 ≤ c) : Calls Try.prog 84 #[.pointer (some ⟨hb, 0, none⟩), .int .i64 (P S.l.length s c), .int .i64 (P S.l.length s (up c)), .int .i64 s] wr fun e w' => e = .returned (.bool (decide (AA S.l.length s (S.wl l).v c < AA S.l.length s (S.wl l).v (up c)))) ∧ ∃ m, w' = wr.drewN m := by
  have hl : (S.wl l).l.length = S.l.length := h.mv.len
  have hcn : 2 * c < S.l.length := by have := h.i.cp; have := h.i.hp; omega
  have huc : 2 * up c < S.l.length := by have := up_lt c1; omega
  have e := outB_eq (S := S.wl l) (i := c) (j := up c) hs (by rw [hl]; exact hcn) (by rw [hl]; exact huc)
  have := out_S (i := P S.l.length s c) (j := P S.l.length s (up c)) h.mv.m (by rw [hl]; exact P_lt hcn) (by rw [hl]; exact P_lt huc) hs
  rw [hl] at e
  rw [e] at this
  exact this
theorem Ri.go (h : Ri w wr hb S s Q p c l) (hs : s ≤ 1) (c1 : 1 ≤ c) (hlt : AA S.l.length s (S.wl l).v c < AA S.l.length s (S.wl l).v (up c)) (m : Nat) : Calls Try.prog 82 #[.pointer (some ⟨hb, 0, none⟩), .int .i64 (P S.l.length s c), .int .i64 (P S.l.length s (up c))] (wr.drewN m) fun e w1 => e = .returned (.tuple #[]) ∧ Hid (∃ l', Ri w w1 hb S s Q p (up c) l') := by
  have hl : (S.wl l).l.length = S.l.length := h.mv.len
  have hcn : 2 * c < S.l.length := by have := h.i.cp; have := h.i.hp; omega
  have huc : 2 * up c < S.l.length := by have := up_lt c1; omega
  have hic : P S.l.length s c < (S.wl l).l.length := by rw [hl]; exact P_lt hcn
  have hif : P S.l.length s (up c) < (S.wl l).l.length := by rw [hl]; exact P_lt huc
  refine (swap_S (h.mv.m.drew m) hic hif).mono ?_
  rintro e w1 ⟨rfl, M1⟩
  refine ⟨rfl, _, (h.mv.drew m).trans M1, ?_⟩
  have hv : (S.wl (lsw (S.wl l).l (P S.l.length s c) (P S.l.length s (up c)))).v = sw (S.wl l).v (P S.l.length s c) (P S.l.length s (up c)) := lsw_v (S.wl l) hic hif
  rw [hv]
  exact rsn_step hs h.i c1 hlt
theorem P_mono {n : Nat} (hs : s ≤ 1) (hcf : c < f) (hf : 2 * f < n) : P n s c < P n s f := by unfold P; omega
theorem P_inj {n : Nat} (hs : s ≤ 1) (hc : 2 * c < n) (hf : 2 * f < n) (e : (P n s f : Int) = (P n s c : Int)) : f = c := by unfold P at e; omega
end
set_option maxHeartbeats 1000000 in
theorem sink_S {w : World} {hb : Nat} {S : HS} {s : Nat} {Q : Nat → Prop} {p : Nat} {l : List Nat} {w0 : World} (hs : s ≤ 1) (h : Hid (Sk w0 w hb S s Q p p l)) :
    Calls Try.prog 77 #[.pointer (some ⟨hb, 0, none⟩), .int .i64 (P S.l.length s p), .int .i64 s] w fun e w' => e = .returned (.tuple #[]) ∧ ∃ l', Ri w0 w' hb S s Q p p l' := by
  have HM : Hid (S.l.length ≤ 1048576) := by have q1 := h.out.mv.m.sm; have q2 := h.out.mv.len; rw [show (S.wl l).l = l from rfl] at q1; unfold Hid; omega
  go_enter Try.func77, Try.ntmps77
  go_wp2_with fail
  go_loopw [1] (fun t wr => ∃ c l', t = .int .i64 (P S.l.length s c) ∧ Hid (Sk w0 wr hb S s Q p c l')) (fun t _ => S.l.length - (intOf t).toNat)
  case atStart => exact ⟨p, l, rfl, h.out⟩
  case round =>
    obtain ⟨c, l', rfl, HS⟩ := hrel
    have H43 := HS.out.below hs
    have hcn : 2 * c < S.l.length := HS.out.i.hc
    have hp0 : 0 ≤ (P S.l.length s c : Int) := by omega
    go_upto_region 1 with (go_at_call 85; refine H43.mono ?_; rintro e w1 ⟨f, rfl, hB, m, rfl⟩)
    clear H43
    have HB : Hid (Bl S.l.length s (S.wl l').v c (2 * c + 3) f) := hB
    clear hB
    have hf0 : 2 * f < S.l.length := HB.out.fn
    by_cases hfc : f = c
    · subst hfc
      have HR : Hid (∃ l', Ri w0 (wr.drewN m) hb S s Q p p l') := ⟨l', HS.out.stop HB.out m⟩
      generalize wr.drewN m = W at *
      go_wp2_with fail
      exact bodyPost_ret (v := .tuple #[]) (results_none rfl _ _ _) rfl ⟨rfl, HR.out⟩
    · have hfc' : ¬ ((P S.l.length s f : Int) = (P S.l.length s c : Int)) := fun q => hfc (P_inj hs hcn hf0 q)
      have hcf : Hid (c < f) := by
        obtain ⟨f1, f2, _⟩ := HB.out.ff.resolve_left hfc
        have := up_lt f1
        unfold Hid
        omega
      have h41 : Hid (∀ m, Calls Try.prog 82 #[.pointer (some ⟨hb, 0, none⟩), .int .i64 (P S.l.length s c), .int .i64 (P S.l.length s f)] (wr.drewN m) fun e w1 => e = .returned (.tuple #[]) ∧ Hid (Calls Try.prog 76 #[.pointer (some ⟨hb, 0, none⟩), .int .i64 f] w1 fun e w2 => e = .returned (.tuple #[]) ∧ Hid (∃ l', Sk w0 w2 hb S s Q p f l'))) := HS.out.go hs HB.out hfc
      have hdiv : (P S.l.length s f : Int) / 2 = (f : Int) := by have := P_half (n := S.l.length) hf0 hs; omega
      have hpf0 : 0 ≤ (P S.l.length s f : Int) := by omega
      have hpf1 : (P S.l.length s f : Int) ≤ 1048576 := by have := P_lt (s := s) hf0; have := HM.out; omega
      have hms : Hid (P S.l.length s c < P S.l.length s f ∧ P S.l.length s f < S.l.length) := ⟨P_mono hs hcf.out hf0, P_lt hf0⟩
      go_wp2_with (first | (go_at_call 82; refine (h41.out _).mono ?_; first | rintro e w1 rfl h37 | rintro e w1 ⟨rfl, h37⟩) | (go_at_call 76; refine h37.out.mono ?_; first | rintro e w2 rfl h2 | rintro e w2 ⟨rfl, h2⟩))
      refine ⟨?_, by have := hms.out; simp [intOf]; omega⟩
      obtain ⟨l2, h3⟩ := h2.out
      exact ⟨f, l2, rfl, h3⟩
set_option maxHeartbeats 1000000 in
theorem rise_S {w : World} {hb : Nat} {S : HS} {s : Nat} {Q : Nat → Prop} {p : Nat} {l : List Nat} {w0 : World} (hs : s ≤ 1) (h : Hid (Ri w0 w hb S s Q p p l)) :
    Calls Try.prog 79 #[.pointer (some ⟨hb, 0, none⟩), .int .i64 (P S.l.length s p), .int .i64 s] w fun e w' => e = .returned (.tuple #[]) ∧ ∃ l', Mv w0 w' hb S l' ∧ Fin' S.l.length (AA S.l.length s (S.wl l').v) (BB S.l.length s (S.wl l').v) Q p := by
  have HM : Hid (S.l.length ≤ 1048576) := by have q1 := h.out.mv.m.sm; have q2 := h.out.mv.len; rw [show (S.wl l).l = l from rfl] at q1; unfold Hid; omega
  go_enter Try.func79, Try.ntmps79
  go_wp2_with fail
  go_loopw [1] (fun t wr => ∃ c l', t = .int .i64 (P S.l.length s c) ∧ Hid (Ri w0 wr hb S s Q p c l')) (fun t _ => (intOf t).toNat)
  case atStart => exact ⟨p, l, rfl, h.out⟩
  case round =>
    obtain ⟨c, l', rfl, HS⟩ := hrel
    have hcn : 2 * c < S.l.length := by have := HS.out.i.cp; have := HS.out.i.hp; omega
    have hp0 : 0 ≤ (P S.l.length s c : Int) := by omega
    have hp1 : (P S.l.length s c : Int) ≤ 1048576 := by have := P_lt (s := s) hcn; have := HM.out; omega
    have hdiv : (P S.l.length s c : Int) / 2 = (c : Int) := by have := P_half (n := S.l.length) hcn hs; omega
    by_cases hc : c = 0
    · have hz : ¬ 0 < (c : Int) := by omega
      have HR : Hid (∃ l', Mv w0 wr hb S l' ∧ Fin' S.l.length (AA S.l.length s (S.wl l').v) (BB S.l.length s (S.wl l').v) Q p) := ⟨l', HS.out.mv, HS.out.i.done fun q => by omega⟩
      clear hc
      go_wp2_with fail
      go_end0
      exact ⟨rfl, HR.out⟩
    · have hz : 0 < (c : Int) := by omega
      have hup : ((c : Int) - 1) / 2 = (up c : Int) := by unfold up; omega
      have H39 : Hid (Calls Try.prog 78 #[.pointer (some ⟨hb, 0, none⟩), .int .i64 (up c), .int .i64 s] wr fun e w' => e = .returned (.int .i64 (P S.l.length s (up c))) ∧ w' = wr) := HS.out.endq hs (by omega)
      have H42 : Hid (Calls Try.prog 84 #[.pointer (some ⟨hb, 0, none⟩), .int .i64 (P S.l.length s c), .int .i64 (P S.l.length s (up c)), .int .i64 s] wr fun e w' => e = .returned (.bool (decide (AA S.l.length s (S.wl l').v c < AA S.l.length s (S.wl l').v (up c)))) ∧ ∃ m, w' = wr.drewN m) := HS.out.outq hs (by omega)
      have hms : Hid (P S.l.length s (up c) < P S.l.length s c) := P_mono hs (up_lt (by omega)) hcn
      by_cases hlt : AA S.l.length s (S.wl l').v c < AA S.l.length s (S.wl l').v (up c)
      · rw [decide_eq_true hlt] at H42
        have H41 : Hid (∀ m, Calls Try.prog 82 #[.pointer (some ⟨hb, 0, none⟩), .int .i64 (P S.l.length s c), .int .i64 (P S.l.length s (up c))] (wr.drewN m) fun e w1 => e = .returned (.tuple #[]) ∧ Hid (∃ l', Ri w0 w1 hb S s Q p (up c) l')) := HS.out.go hs (by omega) hlt
        clear hlt hc
        go_wp2_with (first | (go_at_call 78; refine H39.out.mono ?_; first | rintro e w1 rfl rfl | rintro e w1 ⟨rfl, rfl⟩) | (go_at_call 84; refine H42.out.mono ?_; first | rintro e w2 rfl m rfl | rintro e w2 ⟨rfl, m, rfl⟩) | (go_at_call 82; refine (H41.out _).mono ?_; first | rintro e w2 rfl h2 | rintro e w2 ⟨rfl, h2⟩))
        refine ⟨?_, by have := hms.out; simp [intOf]; omega⟩
        obtain ⟨l2, h3⟩ := h2.out
        exact ⟨up c, l2, rfl, h3⟩
      · rw [decide_eq_false hlt] at H42
        have HR : Hid (∀ m, ∃ l', Mv w0 (wr.drewN m) hb S l' ∧ Fin' S.l.length (AA S.l.length s (S.wl l').v) (BB S.l.length s (S.wl l').v) Q p) := fun m => ⟨l', HS.out.mv.drew m, HS.out.i.done fun q => by omega⟩
        clear hlt hc
        go_wp2_with (first | (go_at_call 78; refine H39.out.mono ?_; first | rintro e w1 rfl rfl | rintro e w1 ⟨rfl, rfl⟩) | (go_at_call 84; refine H42.out.mono ?_; first | rintro e w2 rfl m rfl | rintro e w2 ⟨rfl, m, rfl⟩))
        exact bodyPost_ret (v := .tuple #[]) (results_none rfl _ _ _) rfl ⟨rfl, HR.out _⟩
end Go.Proofs.Ytcfnonfghlgphaa.Hp

namespace Go.Proofs.Ytcfnonfghlgphaa.Hp
open Go.RowKit Go.Maps

def Q0 (p : Nat) : Nat → Prop := fun d => d ≠ p ∧ up d ≠ p
def Q1 : Nat → Prop := fun _ => True
/-- behind mend -/
def Mn (w w' : World) (hb : Nat) (S : HS) : Prop := ∃ l', Mv w w' hb S l' ∧ Vv S.l.length (S.wl l').v
section
variable {w w' wr w1 w2 w0 : World} {hb s p c f : Nat} {S S' S1 S2 : HS} {l l1 l2 : List Nat} {Q : Nat → Prop}
theorem mv_end (h : Mv w wr hb S l) (hs : s ≤ 1) (hp : 2 * p < S.l.length) : Calls Try.prog 78 #[.pointer (some ⟨hb, 0, none⟩), .int .i64 p, .int .i64 s] wr fun e w' => e = .returned (.int .i64 (P S.l.length s p)) ∧ w' = wr := by
  have hl : (S.wl l).l.length = S.l.length := h.len
  have := end_S (p := p) h.m (by rw [hl]; exact hp) hs
  rw [hl] at this
  exact this
theorem phase (hs : s ≤ 1) (h : Sk w0 w hb S s Q p p l) :
    Calls Try.prog 77 #[.pointer (some ⟨hb, 0, none⟩), .int .i64 (P S.l.length s p), .int .i64 s] w fun e w1 => e = .returned (.tuple #[]) ∧ Hid (Calls Try.prog 78 #[.pointer (some ⟨hb, 0, none⟩), .int .i64 p, .int .i64 s] w1 fun e w' => e = .returned (.int .i64 (P S.l.length s p)) ∧ w' = w1) ∧
      Hid (Calls Try.prog 79 #[.pointer (some ⟨hb, 0, none⟩), .int .i64 (P S.l.length s p), .int .i64 s] w1 fun e w' => e = .returned (.tuple #[]) ∧ Hid (∃ l', Mv w0 w' hb S l' ∧ Fin' S.l.length (AA S.l.length s (S.wl l').v) (BB S.l.length s (S.wl l').v) Q p)) := by
  refine (sink_S hs h).mono ?_
  rintro e w1 ⟨rfl, l1, h1⟩
  exact ⟨rfl, mv_end h1.mv hs h1.i.hp, rise_S hs h1⟩
end
def Md (w wr : World) (hb : Nat) (S : HS) (p : Nat) (i : Int) : Prop := (i = 0 ∧ ∃ l', Sk w wr hb S 0 (Q0 p) p p l') ∨ (i = 1 ∧ ∃ l', Sk w wr hb S 1 Q1 p p l') ∨ (i = 2 ∧ Mn w wr hb S)
theorem ix0 (w : World) : (Instr.index 133 (.agg #[.int .i64 0, .int .i64 1]) (.int .i64 0)).run Try.prog w = .ok (.int .i64 0) w := by kernel_rfl
theorem ix1 (w : World) : (Instr.index 133 (.agg #[.int .i64 0, .int .i64 1]) (.int .i64 1)).run Try.prog w = .ok (.int .i64 1) w := by kernel_rfl
set_option maxHeartbeats 1000000 in
theorem mend_raw (w : World) (hb at' p : Nat) (S : HS) (hat : (at' : Int) / 2 = p) (hat0 : (at' : Int) ≤ 1048576) (H37 : Hid (Calls Try.prog 76 #[.pointer (some ⟨hb, 0, none⟩), .int .i64 p] w fun e w' => e = .returned (.tuple #[]) ∧ Hid (Md w w' hb S p 0))) :
    Calls Try.prog 69 #[.pointer (some ⟨hb, 0, none⟩), .int .i64 at'] w fun e w' => e = .returned (.tuple #[]) ∧ Mn w w' hb S := by
  have z0 : 0 ≤ (at' : Int) := by omega
  have i0 := ix0
  have i1 := ix1
  go_enter Try.func69, Try.ntmps69
  go_wp2_with (go_at_call 76; refine H37.out.mono ?_; first | rintro e w1 rfl h1 | rintro e w1 ⟨rfl, h1⟩)
  go_loopw [13] (fun t wr => ∃ i : Int, 0 ≤ i ∧ i ≤ 2 ∧ t = .int .i64 i ∧ Hid (Md w wr hb S p i)) (fun t _ => (2 - intOf t).toNat)
  case atStart => exact ⟨0, by omega, by omega, rfl, h1.out⟩
  case round =>
    obtain ⟨i, hi0, hi2, rfl, HM⟩ := hrel
    rcases HM.out with ⟨rfl, l', h2⟩ | ⟨rfl, l', h2⟩ | ⟨rfl, h2⟩
    · have H39 : Hid (Calls Try.prog 78 #[.pointer (some ⟨hb, 0, none⟩), .int .i64 p, .int .i64 0] wr fun e w' => e = .returned (.int .i64 (P S.l.length 0 p)) ∧ w' = wr) := mv_end h2.mv (by decide) h2.i.hc
      have H38 : Hid (Calls Try.prog 77 #[.pointer (some ⟨hb, 0, none⟩), .int .i64 (P S.l.length 0 p), .int .i64 0] wr fun e w1 => e = .returned (.tuple #[]) ∧ Hid (Calls Try.prog 78 #[.pointer (some ⟨hb, 0, none⟩), .int .i64 p, .int .i64 0] w1 fun e w' => e = .returned (.int .i64 (P S.l.length 0 p)) ∧ w' = w1) ∧
        Hid (Calls Try.prog 79 #[.pointer (some ⟨hb, 0, none⟩), .int .i64 (P S.l.length 0 p), .int .i64 0] w1 fun e w' => e = .returned (.tuple #[]) ∧ Hid (∃ l', Mv w w' hb S l' ∧ Fin' S.l.length (AA S.l.length 0 (S.wl l').v) (BB S.l.length 0 (S.wl l').v) (Q0 p) p))) := phase (by decide) h2
      clear h2 HM
      go_upto_region 6 with (first | (go_at_call 78; refine H39.out.mono ?_; first | rintro e w2 rfl rfl | rintro e w2 ⟨rfl, rfl⟩) | (go_at_call 77; refine H38.out.mono ?_; first | rintro e w2 rfl h39 h40 | rintro e w2 ⟨rfl, h39, h40⟩))
      go_wp2_with (first | (go_at_call 78; refine h39.out.mono ?_; first | rintro e w3 rfl rfl | rintro e w3 ⟨rfl, rfl⟩) | (go_at_call 79; refine h40.out.mono ?_; first | rintro e w3 rfl h5 | rintro e w3 ⟨rfl, h5⟩))
      refine ⟨⟨1, by omega, by omega, rfl, ?_⟩, by simp [intOf]⟩
      obtain ⟨l2, m2, f2⟩ := h5.out
      exact .inr (.inl ⟨rfl, l2, m2, vv_turn f2⟩)
    · have H39 : Hid (Calls Try.prog 78 #[.pointer (some ⟨hb, 0, none⟩), .int .i64 p, .int .i64 1] wr fun e w' => e = .returned (.int .i64 (P S.l.length 1 p)) ∧ w' = wr) := mv_end h2.mv (by decide) h2.i.hc
      have H38 : Hid (Calls Try.prog 77 #[.pointer (some ⟨hb, 0, none⟩), .int .i64 (P S.l.length 1 p), .int .i64 1] wr fun e w1 => e = .returned (.tuple #[]) ∧ Hid (Calls Try.prog 78 #[.pointer (some ⟨hb, 0, none⟩), .int .i64 p, .int .i64 1] w1 fun e w' => e = .returned (.int .i64 (P S.l.length 1 p)) ∧ w' = w1) ∧
        Hid (Calls Try.prog 79 #[.pointer (some ⟨hb, 0, none⟩), .int .i64 (P S.l.length 1 p), .int .i64 1] w1 fun e w' => e = .returned (.tuple #[]) ∧ Hid (∃ l', Mv w w' hb S l' ∧ Fin' S.l.length (AA S.l.length 1 (S.wl l').v) (BB S.l.length 1 (S.wl l').v) Q1 p))) := phase (by decide) h2
      clear h2 HM
      go_upto_region 6 with (first | (go_at_call 78; refine H39.out.mono ?_; first | rintro e w2 rfl rfl | rintro e w2 ⟨rfl, rfl⟩) | (go_at_call 77; refine H38.out.mono ?_; first | rintro e w2 rfl h39 h40 | rintro e w2 ⟨rfl, h39, h40⟩))
      go_wp2_with (first | (go_at_call 78; refine h39.out.mono ?_; first | rintro e w3 rfl rfl | rintro e w3 ⟨rfl, rfl⟩) | (go_at_call 79; refine h40.out.mono ?_; first | rintro e w3 rfl h5 | rintro e w3 ⟨rfl, h5⟩))
      refine ⟨⟨2, by omega, by omega, rfl, ?_⟩, by simp [intOf]⟩
      obtain ⟨l2, m2, f2⟩ := h5.out
      exact .inr (.inr ⟨rfl, l2, m2, vv_end f2⟩)
    · have HR : Hid (Mn w wr hb S) := h2
      clear h2 HM
      go_wp2_with fail
      go_end0
      exact ⟨rfl, HR.out⟩
theorem mend_S {w : World} {hb at' : Nat} {S : HS} (h : Mem w hb S) (hat : at' < S.l.length) (hv : ∃ x, Vv S.l.length (uo S.v at' x)) :
    Calls Try.prog 69 #[.pointer (some ⟨hb, 0, none⟩), .int .i64 at'] w fun e w' => e = .returned (.tuple #[]) ∧ Mn w w' hb S := by
  have hs := h.sm
  obtain ⟨x, hv⟩ := hv
  refine mend_raw w hb at' (at' / 2) S (by omega) (by omega) ?_
  refine (turn_S (p := at' / 2) h (by omega)).mono ?_
  rintro e w1 ⟨rfl, l1, M1, e1⟩
  refine ⟨rfl, .inl ⟨rfl, l1, M1, ?_⟩⟩
  rw [e1]
  exact vv_start hv hat rfl
end Go.Proofs.Ytcfnonfghlgphaa.Hp

namespace Go.Proofs.Ytcfnonfghlgphaa.Hp
open Go.RowKit Go.Maps

/-- the entry with a handle -/
def HS.at (S : HS) (x : Int) : Option Nat := S.l.find? fun b => ((S.hd b : Int) == x)
def HS.uh (S : HS) : Prop := ∀ a ∈ S.l, ∀ b ∈ S.l, S.hd a = S.hd b → a = b
theorem at_some {S : HS} {x : Int} {b : Nat} (h : S.at x = some b) : b ∈ S.l ∧ (S.hd b : Int) = x := ⟨List.mem_of_find?_eq_some h, by have := List.find?_some h; simpa using this⟩
theorem at_none {S : HS} {x : Int} (h : S.at x = none) : ∀ b ∈ S.l, (S.hd b : Int) ≠ x := fun b hb e => by
  have := List.find?_eq_none.1 h b hb
  simp [e] at this
theorem at_of {S : HS} (hu : S.uh) {b : Nat} (hb : b ∈ S.l) : S.at (S.hd b) = some b := by
  cases h : S.at (S.hd b) with
  | none => exact absurd rfl (at_none h b hb)
  | some c =>
    obtain ⟨h1, h2⟩ := at_some h
    rw [hu c h1 b hb (by omega)]
theorem at_eq {S : HS} (hu : S.uh) {x : Int} {o : Option Nat} (h1 : ∀ b, o = some b → b ∈ S.l ∧ (S.hd b : Int) = x) (h2 : o = none → ∀ b ∈ S.l, (S.hd b : Int) ≠ x) : S.at x = o := by
  cases o with
  | none =>
    cases h : S.at x with
    | none => rfl
    | some c => obtain ⟨k1, k2⟩ := at_some h; exact absurd k2 (h2 rfl c k1)
  | some b =>
    obtain ⟨k1, k2⟩ := h1 b rfl
    rw [← k2]
    exact at_of hu k1
structure MpA (w : World) (S : HS) (m : Nat) (M : DataW Nat) : Prop where
  o : w.ownsMap Try.prog 3 pE m (Maps.size M) M
  n : Maps.size M = S.l.length
  a : ∀ (x : Int) (z : DataW Nat), M.atKey (.int .i64 x) z = (S.at x).elim z .held
def Mp (w : World) (S : HS) : Prop := match S.mb with
  | none => S.l = []
  | some m => ∃ M, MpA w S m M
structure Hp (w : World) (hb : Nat) (S : HS) : Prop where
  m : Mem w hb S
  p : Mp w S
  v : Vv S.l.length S.v
  hu : S.uh
  hg : ∀ b ∈ S.l, S.hd b < S.gv
  gv : S.gv ≤ 1048576
  ln : S.l.length ≤ S.gv
section
variable {w w' : World} {hb : Nat} {S S' : HS}
theorem map_ne {m n : Nat} {M : DataW Nat} {b t k : Nat} {f : Nat → Value} (h : w.ownsMap Try.prog 3 pE m n M) (hb : Blk w b t k f) : b ≠ m := fun e => by
  subst e
  obtain ⟨es, clock, hm, _⟩ := h
  unfold Blk at hb
  rw [hm] at hb
  cases hb
theorem map_fam {m n : Nat} {M : DataW Nat} {v : Value} {l : List Nat} (h : w.ownsMap Try.prog 3 pE m n M) (hf : Fam w v l) : v.ownBlock ≠ some m := fun e => by
  obtain ⟨es, clock, hm, _⟩ := h
  rcases hf.2 with ⟨rfl, _⟩ | ⟨g1, cap, cur, rfl, hb', hgg, rest⟩
  · cases e
  · have e1 : g1 = m := by simpa [Value.ownBlock] using e
    subst e1
    rw [hgg] at hm
    cases hm
theorem Mem.map_fl (h : Mem w hb S) {m n : Nat} {M : DataW Nat} (hm : w.ownsMap Try.prog 3 pE m n M) : ¬ Fl S m := by
  rintro (q | q)
  · obtain ⟨i, hi⟩ := List.getElem?_of_mem q
    exact map_ne hm (h.nd i m hi) rfl
  · exact map_fam hm h.fm q
theorem at_perm {l' : List Nat} (hp : l'.Perm S.l) (hu : S.uh) (x : Int) : (S.wl l').at x = S.at x := by
  have hu' : (S.wl l').uh := fun a ha b hb' q => hu a (hp.mem_iff.1 ha) b (hp.mem_iff.1 hb') q
  refine at_eq hu' (fun b q => ?_) (fun q b hb' => at_none q b (hp.mem_iff.1 hb'))
  obtain ⟨h1, h2⟩ := at_some q
  exact ⟨hp.mem_iff.2 h1, h2⟩
theorem MpA.keep {m : Nat} {M : DataW Nat} (h : MpA w S m M) (e : w'.heap[m]? = w.heap[m]?) : MpA w' S m M := ⟨keepMap h.o e, h.n, h.a⟩
theorem Mp.keep (h : Mp w S) (e : ∀ m, S.mb = some m → m < w.heap.size → w'.heap[m]? = w.heap[m]?) : Mp w' S := by
  unfold Mp at *
  cases hm : S.mb with
  | none => rw [hm] at h; exact h
  | some m =>
    rw [hm] at h
    obtain ⟨M, h⟩ := h
    exact ⟨M, h.keep (e m hm h.o.lt)⟩
theorem Mp.lt (h : Mp w S) {m : Nat} (e : S.mb = some m) : m < w.heap.size := by
  unfold Mp at h
  rw [e] at h
  obtain ⟨M, h⟩ := h
  exact h.o.lt
theorem Hp.lt (h : Hp w hb S) (k : Nat) (hk : Fp hb S k) : k < w.heap.size := by
  rcases hk with hk | hk | hk | hk
  · exact h.m.lt k (.inl hk)
  · exact h.m.lt k (.inr (.inl hk))
  · exact h.m.lt k (.inr (.inr hk))
  · exact h.p.lt hk
theorem Hp.keep (h : Hp w hb S) (b : ∀ k, Fp hb S k → w'.heap[k]? = w.heap[k]?) : Hp w' hb S := ⟨h.m.keep b, h.p.keep fun m e _ => b m (.inr (.inr (.inr e))), h.v, h.hu, h.hg, h.gv, h.ln⟩
theorem Hp.below (h : Hp w hb S) (b : Below w.heap.size w w') : Hp w' hb S := h.keep fun k hk => b.block k (h.lt k hk)
/-- behind mend -/
theorem Mn.hp {w0 : World} (h : Mn w0 w hb S) (hm : Mem w0 hb S) (hp : Mp w0 S) (hu : S.uh) (hg : ∀ b ∈ S.l, S.hd b < S.gv) (gv : S.gv ≤ 1048576) (ln : S.l.length ≤ S.gv) : ∃ l', l'.Perm S.l ∧ Hp w hb (S.wl l') ∧ Chg hb S (S.wl l') w0 w := by
  obtain ⟨l', M, v⟩ := h
  refine ⟨l', M.p, ⟨M.m, ?_, ?_, fun a ha b hb' q => hu a (M.p.mem_iff.1 ha) b (M.p.mem_iff.1 hb') q, fun b hb' => hg b (M.p.mem_iff.1 hb'), gv, by show l'.length ≤ _; rw [M.len]; exact ln⟩, ?_⟩
  · unfold Mp at *
    show match S.mb with | none => l' = [] | some m => _
    cases hmb : S.mb with
    | none => rw [hmb] at hp; have := M.p.length_eq; rw [hp] at this; exact List.eq_nil_of_length_eq_zero this
    | some m =>
      rw [hmb] at hp
      obtain ⟨D, hD⟩ := hp
      exact ⟨D, keepMap hD.o (M.k.block m hD.o.lt (hm.map_fl hD.o)), hD.n.trans M.p.length_eq.symm, fun x z => by rw [at_perm M.p hu]; exact hD.a x z⟩
  · rw [show (S.wl l').l.length = S.l.length from M.len]; exact v
  · refine ⟨M.k.mono fun k _ q => q.elim (fun q => .inr (.inl q)) fun q => .inr (.inr (.inl q)), fun k q => .inl ?_⟩
    rcases q with q | q | q | q
    · exact .inl q
    · exact .inr (.inl (M.p.mem_iff.1 q))
    · exact .inr (.inr (.inl q))
    · exact .inr (.inr (.inr q))
end

/-- a pointer put behind an owned row -/
theorem append_ptr {ops : Array Oper} {rest : List Oper} {o : Oper} {a : Act} {Q : Exit → Act → World → Prop} {w : World} (hgd : o.guard = none) (s x : Operand)
    (ho : o.op = .call { callee := .builtin .append, args := #[s, x], argTypes := #[112, 112] }) (v : Value) (l : List Nat) (b : Nat) (hs : a.eval s = v) (hown : Fam w v l)
    (g c : Nat) (hx : a.eval x = .slice (some ⟨g, 0, none⟩) 1 c) (hm : w.cell? ⟨g, 0, none⟩ = some (ptr b)) (hb : l.length ≤ 1048576)
    (h : ∀ v' w', Fam w' v' (l ++ [b]) → w.grownBy w' v.ownBlock → (v'.ownBlock = v.ownBlock ∨ v'.ownBlock = some w.heap.size) → wpList Try.prog ops Q rest (a.put o.dst v') w') :
    wpList Try.prog ops Q (o :: rest) a w := by
  obtain ⟨i0, hi, hz0, hz1, hz2⟩ := info_parts info67
  refine wpList_append_own_at _ hgd s x 112 ho 0 115 i0 (.pointer none) 1 8 Try.underlying112 hi hz0 hz1 hz2 rfl (by decide) v l.length (l.map ptr) hs hown _ 1 c [ptr b] hx rfl
    (fun j u hu => ?_) (by intro u hu; simp only [List.mem_singleton] at hu; subst hu; rfl) (by unfold maxLen; omega) (by omega) (Nat.zero_le _) (fun v' w' h1 h2 _ h4 => h v' w' ?_ h2 h4)
  · cases j with
    | zero => simp at hu; subst hu; exact hm
    | succ j => simp at hu
  · unfold Fam
    rw [List.length_append, List.map_append]
    exact h1
theorem loc_of {W w : World} {v v' : Value} {o : Obj} (hsz : w.heap.size ≤ W.heap.size) (h3 : v'.ownBlock = v.ownBlock ∨ v'.ownBlock = some (W.alloc o).heap.size) : ∀ k, v'.ownBlock = some k → v.ownBlock = some k ∨ w.heap.size ≤ k := fun k hk => by
  rcases h3 with h3 | h3 <;> rw [h3] at hk
  · exact .inl hk
  · simp at hk; right; omega
/-- behind the entry's being laid in map and row -/
structure AddD (w W : World) (hb eb : Nat) (f g : Nat → Value) (mb : Option Nat) (lv v' : Value) (l : List Nat) (m n : Nat) (M' : DataW Nat) : Prop where
  hp : Blk W hb 114 3 (fset (fset f 1 (.map (some m))) 2 v')
  en : Blk W eb 117 5 (fset g 4 (.int .i64 l.length))
  fm : Fam W v' (l ++ [eb])
  mp : W.ownsMap Try.prog 3 pE m n M'
  kp : Kp (fun k => k = hb ∨ k = eb ∨ lv.ownBlock = some k ∨ mb = some k) w W
  lo : ∀ k, v'.ownBlock = some k → lv.ownBlock = some k ∨ w.heap.size ≤ k
  lm : mb = some m ∨ w.heap.size ≤ m
set_option maxHeartbeats 2000000 in
theorem add_some (w : World) (hb eb m n x : Nat) (M : DataW Nat) (f g : Nat → Value) (l : List Nat) (lv : Value) (R : World → Prop) (hx : x < 9223372036854775808) (hn : n < maxLen) (h : Hid (Blk w hb 114 3 f)) (hf1 : f 1 = .map (some m)) (hf2 : f 2 = lv) (he : Hid (Blk w eb 117 5 g)) (hg : g 0 = .int .i64 x) (hv : Hid (Fam w lv l)) (hl : l.length ≤ 1048575) (hown : Hid (w.ownsMap Try.prog 3 pE m n M))
    (H33 : Hid (∀ W v', AddD w W hb eb f g (some m) lv v' l m (n + 1) (M.put (.int .i64 x) (.held eb)) → Calls Try.prog 69 #[.pointer (some ⟨hb, 0, none⟩), .int .i64 l.length] W fun e w' => e = .returned (.tuple #[]) ∧ Hid (R w'))) :
    Calls Try.prog 61 #[ptr hb, ptr eb] w fun e w' => e = .returned (.tuple #[]) ∧ R w' := by
  have qT : ∀ (w : World) (r : Option Nat), (binOp .eql 111 (.map r) (.map none)).run Try.prog w = .ok (.bool r.isNone) w := fun w r => run_eql_map_nil w _ _ _ r Try.underlying111
  obtain ⟨a, c, hlv⟩ := hv.out.shape
  subst hlv
  have e1 := h.out.cell 1 (by decide)
  have e2 := he.out.cell 0 (by decide)
  rw [hf1] at e1
  rw [hg] at e2
  obtain ⟨w2, hr2, H2⟩ : ∃ w2, (Instr.mapUpdate 111 (.map (some m)) (.int .i64 x) (.pointer (some ⟨eb, 0, none⟩))).run Try.prog w.drew = .ok () w2 ∧ Hid (w2.ownsMap Try.prog 3 pE m (n + 1) (M.put (.int .i64 x) (.held eb)) ∧ Kp (· = m) w w2) := by
    obtain ⟨w2, hr2, hown2, hgr2⟩ := (keepMap (w1 := w.drew) hown.out rfl).update law3 Try.underlying111 hn (key3 x hx) (val := .pointer (some ⟨eb, 0, none⟩)) (d := .held eb) (ps := []) rfl
    have hk : Kp (· = m) w.drew w2 := Kp.of_grown hgr2 fun k e => (Option.some.inj e).symm
    exact ⟨w2, hr2, hown2, ⟨hk.os, hk.tape, hk.output, hk.size, hk.block⟩⟩
  have HHE : Hid (hb ≠ eb) := blk_ne h.out he.out (by decide)
  have A1 : Hid (Blk w2 hb 114 3 f) := blk_keep h.out H2.out.2 (map_ne hown.out h.out)
  have A2 : Hid (Blk w2 eb 117 5 g) := blk_keep he.out H2.out.2 (map_ne hown.out he.out)
  have A3 : Hid (Fam w2 (.slice a l.length c) l) := hv.out.keep fun k hk => H2.out.2.block k (hv.out.lt hk) fun e => map_fam hown.out hv.out (by rw [← e]; exact hk)
  have B1 : Hid (Blk (w2.setCell ⟨eb, 4, none⟩ (.int .i64 l.length)) hb 114 3 (fset f 1 (.map (some m)))) := (A1.out.other _ _ (fun e => HHE.out e.symm)).same fun i _ => by unfold fset; split <;> simp_all
  have B2 : Hid (Blk (w2.setCell ⟨eb, 4, none⟩ (.int .i64 l.length)) eb 117 5 (fset g 4 (.int .i64 l.length))) := A2.out.set 4 _
  have B3 : Hid (Fam (w2.setCell ⟨eb, 4, none⟩ (.int .i64 l.length)) (.slice a l.length c) l) := fam_other A3.out _ _ (A3.out.ne A2.out (by decide))
  have B4 : Hid ((w2.setCell ⟨eb, 4, none⟩ (.int .i64 l.length)).ownsMap Try.prog 3 pE m (n + 1) (M.put (.int .i64 x) (.held eb))) := keepMap H2.out.1 (Below.heap_setCell _ _ _ _ fun e => map_ne H2.out.1 A2.out e.symm)
  have B5 : Hid (Kp (fun k => k = hb ∨ k = eb ∨ (Value.slice a l.length c).ownBlock = some k ∨ some m = some k) w (w2.setCell ⟨eb, 4, none⟩ (.int .i64 l.length))) := (H2.out.2.mono (S' := fun k => k = hb ∨ k = eb ∨ (Value.slice a l.length c).ownBlock = some k ∨ some m = some k) fun k _ e => .inr (.inr (.inr (by rw [e])))).trans (Kp.of_set (S := (· = eb)) _ ⟨eb, 4, none⟩ _ rfl) fun k _ e => .inr (.inl e)
  have e3 := A1.out.cell 2 (by decide)
  rw [hf2] at e3
  have e4 := A2.out.cell 4 (by decide)
  have f4 := A2.out.fz 4
  unfold ptr
  clear hf1 hg hx hn
  go_enter Try.func61, Try.ntmps61
  go_upto_region 2 with fail
  go_region
  all_goals go_upto_region 4 with fail
  generalize w2.setCell ⟨eb, 4, none⟩ (.int .i64 l.length) = W at *
  clear e1 e2 e3 e4 f4 hr2 H2 A1 A2 A3 h he hv hown
  have e3 := B1.out.cell 2 (by decide)
  rw [show fset f 1 (.map (some m)) 2 = f 2 from rfl, hf2] at e3
  have H1 : Hid (Fam (W.alloc (.cells #[ptr eb] 115)) (.slice a l.length c) l) := B3.out.keep fun k hk => Below.heap_alloc W _ k (B3.out.lt hk)
  have c1 : Hid ((W.alloc (.cells #[ptr eb] 115)).cell? ⟨W.heap.size, 0, none⟩ = some (ptr eb)) := by
    unfold Hid World.cell?
    rw [new0]
    rfl
  have hsz : Hid (w.heap.size ≤ W.heap.size) := B5.out.size
  go_upto_region 5 with (at_builtin; refine append_ptr (w := W.alloc (.cells #[ptr eb] 115)) rfl _ _ rfl (.slice a l.length c) l eb rfl H1.out W.heap.size 1 rfl c1.out (by omega) ?_; intro v' w3 h1 h2 h3; obtain ⟨a', c', ev⟩ := h1.shape; rw [List.length_append, List.length_singleton] at ev; subst ev; have K2 : Hid (Kp (fun k => (Value.slice a l.length c).ownBlock = some k) W w3) := (Kp.alloc W (.cells #[ptr eb] 115)).trans (Kp.of_grown (S := fun k => (Value.slice a l.length c).ownBlock = some k) h2 fun k e => e) fun _ _ h => h; have P2 : Hid (Blk w3 hb 114 3 (fset f 1 (.map (some m)))) := blk_keep B1.out K2.out (fun e => B3.out.ne B1.out (by decide) e); have E2 : Hid (Blk w3 eb 117 5 (fset g 4 (.int .i64 l.length))) := blk_keep B2.out K2.out (fun e => B3.out.ne B2.out (by decide) e); have M2 : Hid (w3.ownsMap Try.prog 3 pE m (n + 1) (M.put (.int .i64 x) (.held eb))) := keepMap B4.out (K2.out.block m B4.out.lt (fun e => map_fam B4.out B3.out e)); have e5 := P2.out.cell 2 (by decide); have f5 := P2.out.fz 2; have R1 : Hid (Fam w3 (.slice a' (l.length + 1) c') (l ++ [eb])) := h1; have R3 : Hid (∀ k, (Value.slice a' (l.length + 1) c').ownBlock = some k → (Value.slice a l.length c).ownBlock = some k ∨ w.heap.size ≤ k) := loc_of hsz.out h3; clear h1 h2 h3)
  have HA : Hid (AddD w (w3.setCell ⟨hb, 2, none⟩ (.slice a' (l.length + 1) c')) hb eb f g (some m) (.slice a l.length c) (.slice a' (l.length + 1) c') l m (n + 1) (M.put (.int .i64 x) (.held eb))) :=
    ⟨P2.out.set 2 _, E2.out.other _ _ HHE.out, fam_other R1.out _ _ (R1.out.ne P2.out (by decide)), keepMap M2.out (Below.heap_setCell _ _ _ _ fun e => map_ne M2.out P2.out e.symm),
      (B5.out.trans (S' := fun k => (Value.slice a l.length c).ownBlock = some k) K2.out fun k _ e => .inr (.inr (.inl e))).trans (Kp.of_set (S := (· = hb)) _ ⟨hb, 2, none⟩ _ rfl) fun k _ e => .inl e, R3.out, (.inl rfl)⟩
  generalize w3.setCell ⟨hb, 2, none⟩ (.slice a' (l.length + 1) c') = W4 at *
  have e6 : W4.cell? ⟨eb, 4, none⟩ = some (.int .i64 l.length) := HA.out.en.cell 4 (by decide)
  have H9 := H33.out W4 _ HA.out
  clear e3 e5 f5 H1 c1 K2 P2 E2 M2 R1 R3 B1 B2 B3 B4 B5 HA
  go_wp2_with (go_at_call 69; refine H9.mono ?_; first | rintro e w5 rfl h5 | rintro e w5 ⟨rfl, h5⟩)
  go_end0
  exact ⟨rfl, h5.out⟩
set_option maxHeartbeats 2000000 in
theorem add_none (w : World) (hb eb x : Nat) (f g : Nat → Value) (l : List Nat) (lv : Value) (R : World → Prop) (hx : x < 9223372036854775808) (h : Hid (Blk w hb 114 3 f)) (hf1 : f 1 = .map none) (hf2 : f 2 = lv) (he : Hid (Blk w eb 117 5 g)) (hg : g 0 = .int .i64 x) (hv : Hid (Fam w lv l)) (hl : l.length ≤ 1048575)
    (H33 : Hid (∀ W v' m, AddD w W hb eb f g none lv v' l m 1 (m0.put (.int .i64 x) (.held eb)) → Calls Try.prog 69 #[.pointer (some ⟨hb, 0, none⟩), .int .i64 l.length] W fun e w' => e = .returned (.tuple #[]) ∧ Hid (R w'))) :
    Calls Try.prog 61 #[ptr hb, ptr eb] w fun e w' => e = .returned (.tuple #[]) ∧ R w' := by
  have qT : ∀ (w : World) (r : Option Nat), (binOp .eql 111 (.map r) (.map none)).run Try.prog w = .ok (.bool r.isNone) w := fun w r => run_eql_map_nil w _ _ _ r Try.underlying111
  have hmm := @run_makeMap Try.prog
  obtain ⟨a, c, hlv⟩ := hv.out.shape
  subst hlv
  have HHE : Hid (hb ≠ eb) := blk_ne h.out he.out (by decide)
  have e1 := h.out.cell 1 (by decide)
  rw [hf1] at e1
  have e1a := (blk_alloc h.out (.map #[] 0)).cell 1 (by decide)
  rw [hf1] at e1a
  have f0 := (blk_alloc h.out (.map #[] 0)).fz 1
  have G1 : Hid (Blk ((w.alloc (.map #[] 0)).setCell ⟨hb, 1, none⟩ (.map (some w.heap.size))) hb 114 3 (fset f 1 (.map (some w.heap.size)))) := (blk_alloc h.out (.map #[] 0)).set 1 _
  have G0 : Hid (Blk ((w.alloc (.map #[] 0)).setCell ⟨hb, 1, none⟩ (.map (some w.heap.size))) eb 117 5 g) := (blk_alloc he.out (.map #[] 0)).other _ _ HHE.out
  have hm : Hid (hb < w.heap.size) := h.out.lt
  have G2 : Hid (((w.alloc (.map #[] 0)).setCell ⟨hb, 1, none⟩ (.map (some w.heap.size))).ownsMap Try.prog 3 pE w.heap.size 0 m0) := (World.ownsMap_made w Try.prog 3 pE).setCell (by have := hm.out; simp; omega) _
  have G3 : Hid (Kp (· = hb) w ((w.alloc (.map #[] 0)).setCell ⟨hb, 1, none⟩ (.map (some w.heap.size)))) := (Kp.of_below ((Below.refl _ w).alloc (Nat.le_refl _) _)).trans (Kp.of_set (S := (· = hb)) _ ⟨hb, 1, none⟩ _ rfl) fun _ _ h => h
  have G4 : Hid (Fam ((w.alloc (.map #[] 0)).setCell ⟨hb, 1, none⟩ (.map (some w.heap.size))) (.slice a l.length c) l) := hv.out.keep fun k hk => (G3.out.block k (hv.out.lt hk) fun e => hv.out.ne h.out (by decide) (by rw [← e]; exact hk))
  unfold ptr
  go_enter Try.func61, Try.ntmps61
  go_upto_region 2 with fail
  clear e1 f0 e1a
  generalize (w.alloc (.map #[] 0)).setCell ⟨hb, 1, none⟩ (.map (some w.heap.size)) = V at *
  have hms : Hid (w.heap.size = w.heap.size) := rfl
  have e1 : V.cell? ⟨hb, 1, none⟩ = some (.map (some w.heap.size)) := G1.out.cell 1 (by decide)
  have e2 := G0.out.cell 0 (by decide)
  rw [hg] at e2
  obtain ⟨m, hmd⟩ : ∃ m, m = w.heap.size := ⟨_, rfl⟩
  rw [← hmd] at G1 G2 e1
  have HMD : Hid (m = w.heap.size) := hmd
  clear hmd hms
  obtain ⟨w2, hr2, H2⟩ : ∃ w2, (Instr.mapUpdate 111 (.map (some m)) (.int .i64 x) (.pointer (some ⟨eb, 0, none⟩))).run Try.prog V.drew = .ok () w2 ∧ Hid (w2.ownsMap Try.prog 3 pE m 1 (m0.put (.int .i64 x) (.held eb)) ∧ Kp (· = m) V w2) := by
    obtain ⟨w2, hr2, hown2, hgr2⟩ := (keepMap (w1 := V.drew) G2.out rfl).update law3 Try.underlying111 (by unfold maxLen; omega) (key3 x hx) (val := .pointer (some ⟨eb, 0, none⟩)) (d := .held eb) (ps := []) rfl
    have hk : Kp (· = m) V.drew w2 := Kp.of_grown hgr2 fun k e => (Option.some.inj e).symm
    exact ⟨w2, hr2, hown2, ⟨hk.os, hk.tape, hk.output, hk.size, hk.block⟩⟩
  have A1 : Hid (Blk w2 hb 114 3 (fset f 1 (.map (some m)))) := blk_keep G1.out H2.out.2 (map_ne G2.out G1.out)
  have A2 : Hid (Blk w2 eb 117 5 g) := blk_keep G0.out H2.out.2 (map_ne G2.out G0.out)
  have A3 : Hid (Fam w2 (.slice a l.length c) l) := G4.out.keep fun k hk => H2.out.2.block k (G4.out.lt hk) fun e => map_fam G2.out G4.out (by rw [← e]; exact hk)
  have B1 : Hid (Blk (w2.setCell ⟨eb, 4, none⟩ (.int .i64 l.length)) hb 114 3 (fset f 1 (.map (some m)))) := A1.out.other _ _ (fun e => HHE.out e.symm)
  have B2 : Hid (Blk (w2.setCell ⟨eb, 4, none⟩ (.int .i64 l.length)) eb 117 5 (fset g 4 (.int .i64 l.length))) := A2.out.set 4 _
  have B3 : Hid (Fam (w2.setCell ⟨eb, 4, none⟩ (.int .i64 l.length)) (.slice a l.length c) l) := fam_other A3.out _ _ (A3.out.ne A2.out (by decide))
  have B4 : Hid ((w2.setCell ⟨eb, 4, none⟩ (.int .i64 l.length)).ownsMap Try.prog 3 pE m 1 (m0.put (.int .i64 x) (.held eb))) := keepMap H2.out.1 (Below.heap_setCell _ _ _ _ fun e => map_ne H2.out.1 A2.out e.symm)
  have B5 : Hid (Kp (fun k => k = hb ∨ k = eb ∨ (Value.slice a l.length c).ownBlock = some k ∨ none = some k) w (w2.setCell ⟨eb, 4, none⟩ (.int .i64 l.length))) := ((G3.out.mono (S' := fun k => k = hb ∨ k = eb ∨ (Value.slice a l.length c).ownBlock = some k ∨ none = some k) fun k _ e => .inl e).trans H2.out.2 fun k hk e => by have := HMD.out; omega).trans (Kp.of_set (S := (· = eb)) _ ⟨eb, 4, none⟩ _ rfl) fun k _ e => .inr (.inl e)
  have e3 := A1.out.cell 2 (by decide)
  rw [show fset f 1 (.map (some m)) 2 = f 2 from rfl, hf2] at e3
  have e4 := A2.out.cell 4 (by decide)
  have f4 := A2.out.fz 4
  clear hf1 hg hx G0 G1 G2 G3 G4
  go_region
  all_goals go_upto_region 4 with fail
  generalize w2.setCell ⟨eb, 4, none⟩ (.int .i64 l.length) = W at *
  clear e1 e2 e3 e4 f4 hr2 H2 A1 A2 A3 h he hv
  have e3 := B1.out.cell 2 (by decide)
  rw [show fset f 1 (.map (some m)) 2 = f 2 from rfl, hf2] at e3
  have H1 : Hid (Fam (W.alloc (.cells #[ptr eb] 115)) (.slice a l.length c) l) := B3.out.keep fun k hk => Below.heap_alloc W _ k (B3.out.lt hk)
  have c1 : Hid ((W.alloc (.cells #[ptr eb] 115)).cell? ⟨W.heap.size, 0, none⟩ = some (ptr eb)) := by
    unfold Hid World.cell?
    rw [new0]
    rfl
  have hsz : Hid (w.heap.size ≤ W.heap.size) := B5.out.size
  go_upto_region 5 with (at_builtin; refine append_ptr (w := W.alloc (.cells #[ptr eb] 115)) rfl _ _ rfl (.slice a l.length c) l eb rfl H1.out W.heap.size 1 rfl c1.out (by omega) ?_; intro v' w3 h1 h2 h3; obtain ⟨a', c', ev⟩ := h1.shape; rw [List.length_append, List.length_singleton] at ev; subst ev; have K2 : Hid (Kp (fun k => (Value.slice a l.length c).ownBlock = some k) W w3) := (Kp.alloc W (.cells #[ptr eb] 115)).trans (Kp.of_grown (S := fun k => (Value.slice a l.length c).ownBlock = some k) h2 fun k e => e) fun _ _ h => h; have P2 : Hid (Blk w3 hb 114 3 (fset f 1 (.map (some m)))) := blk_keep B1.out K2.out (fun e => B3.out.ne B1.out (by decide) e); have E2 : Hid (Blk w3 eb 117 5 (fset g 4 (.int .i64 l.length))) := blk_keep B2.out K2.out (fun e => B3.out.ne B2.out (by decide) e); have M2 : Hid (w3.ownsMap Try.prog 3 pE m 1 (m0.put (.int .i64 x) (.held eb))) := keepMap B4.out (K2.out.block m B4.out.lt (fun e => map_fam B4.out B3.out e)); have e5 := P2.out.cell 2 (by decide); have f5 := P2.out.fz 2; have R1 : Hid (Fam w3 (.slice a' (l.length + 1) c') (l ++ [eb])) := h1; have R3 : Hid (∀ k, (Value.slice a' (l.length + 1) c').ownBlock = some k → (Value.slice a l.length c).ownBlock = some k ∨ w.heap.size ≤ k) := loc_of hsz.out h3; clear h1 h2 h3)
  have HA : Hid (AddD w (w3.setCell ⟨hb, 2, none⟩ (.slice a' (l.length + 1) c')) hb eb f g none (.slice a l.length c) (.slice a' (l.length + 1) c') l m 1 (m0.put (.int .i64 x) (.held eb))) :=
    ⟨P2.out.set 2 _, E2.out.other _ _ HHE.out, fam_other R1.out _ _ (R1.out.ne P2.out (by decide)), keepMap M2.out (Below.heap_setCell _ _ _ _ fun e => map_ne M2.out P2.out e.symm),
      (B5.out.trans (S' := fun k => (Value.slice a l.length c).ownBlock = some k) K2.out fun k _ e => .inr (.inr (.inl e))).trans (Kp.of_set (S := (· = hb)) _ ⟨hb, 2, none⟩ _ rfl) fun k _ e => .inl e, R3.out, (.inr (by rw [HMD.out]; exact Nat.le_refl _))⟩
  generalize w3.setCell ⟨hb, 2, none⟩ (.slice a' (l.length + 1) c') = W4 at *
  have e6 : W4.cell? ⟨eb, 4, none⟩ = some (.int .i64 l.length) := HA.out.en.cell 4 (by decide)
  have H9 := H33.out W4 _ _ HA.out
  clear e3 e5 f5 H1 c1 K2 P2 E2 M2 R1 R3 B1 B2 B3 B4 B5 HA
  go_wp2_with (go_at_call 69; refine H9.mono ?_; first | rintro e w5 rfl h5 | rintro e w5 ⟨rfl, h5⟩)
  go_end0
  exact ⟨rfl, h5.out⟩
end Go.Proofs.Ytcfnonfghlgphaa.Hp
