/-
  sink, rise.
-/
import Derived.Test.YthlbeofonbbbdaaNf
namespace Go.Proofs.Ythlbeofonbbbdaa
open Go.RowKit Go.Maps

/-- while one sinks, while one rises, behind it -/
structure Sk (w wr : World) (hb : Nat) (S : HS) (s : Nat) (Q : Nat → Prop) (p c : Nat) (l : List Nat) : Prop where
  mv : Mv w wr hb S l
  i : Snk S.l.length (AA S.l.length s (S.wl l).v) (BB S.l.length s (S.wl l).v) Q p c
structure Ri (w wr : World) (hb : Nat) (S : HS) (s : Nat) (Q : Nat → Prop) (p c : Nat) (l : List Nat) : Prop where
  mv : Mv w wr hb S l
  i : Rsn S.l.length (AA S.l.length s (S.wl l).v) (BB S.l.length s (S.wl l).v) Q p c
section
variable {w w' wr w1 w2 : World} {hb s p c f : Nat} {S S' S1 S2 : HS} {l l1 l2 : List Nat} {Q : Nat → Prop}
theorem Sk.below (h : Sk w wr hb S s Q p c l) (hs : s ≤ 1) : Calls Try.prog 100 #[.pointer (some ⟨hb, 0, none⟩), .int .i64 (P S.l.length s c), .int .i64 s] wr fun e w' => ∃ f, e = .returned (.int .i64 (P S.l.length s f)) ∧ Bl S.l.length s (S.wl l).v c (2 * c + 3) f ∧ ∃ m, w' = wr.drewN m := by
  have hl := h.mv.len
  have := below_S (c := c) h.mv.m hs (by show 2 * c < l.length; rw [hl]; exact h.i.hc)
  rw [show (S.wl l).l.length = S.l.length from hl] at this
  exact this
theorem Sk.stop (h : Sk w wr hb S s Q p c l) (hB : Bl S.l.length s (S.wl l).v c (2 * c + 3) c) (m : Nat) : Ri w (wr.drewN m) hb S s Q p p l :=
  ⟨h.mv.drew m, h.i.done fun e e1 e2 e3 => hB.me e e1 e2 e3 (by unfold up at e3; omega)⟩
theorem Sk.go (h : Sk w wr hb S s Q p c l) (hs : s ≤ 1) (hB : Bl S.l.length s (S.wl l).v c (2 * c + 3) f) (hne : f ≠ c) (m : Nat) :
    Calls Try.prog 84 #[.pointer (some ⟨hb, 0, none⟩), .int .i64 (P S.l.length s c), .int .i64 (P S.l.length s f)] (wr.drewN m) fun e w1 => e = .returned (.tuple #[]) ∧ Hid (Calls Try.prog 85 #[.pointer (some ⟨hb, 0, none⟩), .int .i64 f] w1 fun e w2 => e = .returned (.tuple #[]) ∧ Hid (∃ l', Sk w w2 hb S s Q p f l')) := by
  have hl := h.mv.len
  have hfn := hB.fn
  obtain ⟨f1, fc, flt⟩ := hB.ff.resolve_left hne
  have hic : P S.l.length s c < (S.wl l).l.length := by show _ < l.length; rw [hl]; exact P_lt h.i.hc
  have hif : P S.l.length s f < (S.wl l).l.length := by show _ < l.length; rw [hl]; exact P_lt hfn
  refine (swap_S (h.mv.m.drew m) hic hif).mono ?_
  rintro e w1 ⟨rfl, M1⟩
  refine ⟨rfl, ?_⟩
  have hl1 : (lsw (S.wl l).l (P S.l.length s c) (P S.l.length s f)).length = S.l.length := lsw_length.trans hl
  have hv := lsw_v (S.wl l) hic hif
  generalize lsw (S.wl l).l (P S.l.length s c) (P S.l.length s f) = l1 at *
  refine (turn_S (p := f) M1.m (by show 2 * f < l1.length; rw [hl1]; exact hfn)).mono ?_
  rintro e w2 ⟨rfl, l2, M2, hv2⟩
  refine ⟨rfl, l2, ((h.mv.drew m).trans M1).trans M2, ?_⟩
  have e2 : (S.wl l2).v = tn S.l.length (sw (S.wl l).v (P S.l.length s c) (P S.l.length s f)) f := by
    have q1 : (((S.wl l).wl l1).wl l2).v = tn l1.length ((S.wl l).wl l1).v f := hv2
    rw [hl1, hv] at q1
    exact q1
  rw [e2]
  exact snk_step hs h.i f1 hfn fc flt fun e e1 e2 e3 => hB.me e e1 e2 e3 (by unfold up at e3; omega)
theorem Ri.endq (h : Ri w wr hb S s Q p c l) (hs : s ≤ 1) (c1 : 1 ≤ c) : Calls Try.prog 60 #[.pointer (some ⟨hb, 0, none⟩), .int .i64 (up c), .int .i64 s] wr fun e w' => e = .returned (.int .i64 (P S.l.length s (up c))) ∧ w' = wr := by
  have hl := h.mv.len
  have hcn : 2 * c < S.l.length := by have := h.i.cp; have := h.i.hp; omega
  have := end_S (p := up c) h.mv.m (by show 2 * up c < l.length; rw [hl]; have := up_lt c1; omega) hs
  rw [show (S.wl l).l.length = S.l.length from hl] at this
  exact this
theorem Ri.outq (h : Ri w wr hb S s Q p c l) (hs : s ≤ 1) (c1 : 1 ≤ c) : Calls Try.prog 99 #[.pointer (some ⟨hb, 0, none⟩), .int .i64 (P S.l.length s c), .int .i64 (P S.l.length s (up c)), .int .i64 s] wr fun e w' => e = .returned (.bool (decide (AA S.l.length s (S.wl l).v c < AA S.l.length s (S.wl l).v (up c)))) ∧ ∃ m, w' = wr.drewN m := by
  have hl : (S.wl l).l.length = S.l.length := h.mv.len
  have hcn : 2 * c < S.l.length := by have := h.i.cp; have := h.i.hp; omega
  have huc : 2 * up c < S.l.length := by have := up_lt c1; omega
  have e := outB_eq (S := S.wl l) (i := c) (j := up c) hs (by rw [hl]; exact hcn) (by rw [hl]; exact huc)
  have := out_S (i := P S.l.length s c) (j := P S.l.length s (up c)) h.mv.m (by rw [hl]; exact P_lt hcn) (by rw [hl]; exact P_lt huc) hs
  rw [hl] at e
  rw [e] at this
  exact this
theorem Ri.go (h : Ri w wr hb S s Q p c l) (hs : s ≤ 1) (c1 : 1 ≤ c) (hlt : AA S.l.length s (S.wl l).v c < AA S.l.length s (S.wl l).v (up c)) (m : Nat) : Calls Try.prog 84 #[.pointer (some ⟨hb, 0, none⟩), .int .i64 (P S.l.length s c), .int .i64 (P S.l.length s (up c))] (wr.drewN m) fun e w1 => e = .returned (.tuple #[]) ∧ Hid (∃ l', Ri w w1 hb S s Q p (up c) l') := by
  have hl : (S.wl l).l.length = S.l.length := h.mv.len
  have hcn : 2 * c < S.l.length := by have := h.i.cp; have := h.i.hp; omega
  have huc : 2 * up c < S.l.length := by have := up_lt c1; omega
  have hic : P S.l.length s c < (S.wl l).l.length := by rw [hl]; exact P_lt hcn
  have hif : P S.l.length s (up c) < (S.wl l).l.length := by rw [hl]; exact P_lt huc
  refine (swap_S (h.mv.m.drew m) hic hif).mono ?_
  rintro e w1 ⟨rfl, M1⟩
  refine ⟨rfl, _, (h.mv.drew m).trans M1, ?_⟩
  have hv : (S.wl (lsw (S.wl l).l (P S.l.length s c) (P S.l.length s (up c)))).v = sw (S.wl l).v (P S.l.length s c) (P S.l.length s (up c)) := lsw_v (S.wl l) hic hif
  rw [hv]
  exact rsn_step hs h.i c1 hlt
theorem P_mono {n : Nat} (hs : s ≤ 1) (hcf : c < f) (hf : 2 * f < n) : P n s c < P n s f := by unfold P; omega
theorem P_inj {n : Nat} (hs : s ≤ 1) (hc : 2 * c < n) (hf : 2 * f < n) (e : (P n s f : Int) = (P n s c : Int)) : f = c := by unfold P at e; omega
end
set_option maxHeartbeats 1000000 in
theorem sink_S {w : World} {hb : Nat} {S : HS} {s : Nat} {Q : Nat → Prop} {p : Nat} {l : List Nat} {w0 : World} (hs : s ≤ 1) (h : Hid (Sk w0 w hb S s Q p p l)) :
    Calls Try.prog 86 #[.pointer (some ⟨hb, 0, none⟩), .int .i64 (P S.l.length s p), .int .i64 s] w fun e w' => e = .returned (.tuple #[]) ∧ ∃ l', Ri w0 w' hb S s Q p p l' := by
  have HM : Hid (S.l.length ≤ 1048576) := by have q1 := h.out.mv.m.sm; have q2 := h.out.mv.len; rw [show (S.wl l).l = l from rfl] at q1; unfold Hid; omega
  go_enter Try.func86, Try.ntmps86
  go_wp2_with fail
  go_loopw [1] (fun t wr => ∃ c l', t = .int .i64 (P S.l.length s c) ∧ Hid (Sk w0 wr hb S s Q p c l')) (fun t _ => S.l.length - (intOf t).toNat)
  case atStart => exact ⟨p, l, rfl, h.out⟩
  case round =>
    obtain ⟨c, l', rfl, HS⟩ := hrel
    have H43 := HS.out.below hs
    have hcn : 2 * c < S.l.length := HS.out.i.hc
    have hp0 : 0 ≤ (P S.l.length s c : Int) := by omega
    go_upto_region 1 with (go_at_call 100; refine H43.mono ?_; rintro e w1 ⟨f, rfl, hB, m, rfl⟩)
    clear H43
    have HB : Hid (Bl S.l.length s (S.wl l').v c (2 * c + 3) f) := hB
    clear hB
    have hf0 : 2 * f < S.l.length := HB.out.fn
    by_cases hfc : f = c
    · subst hfc
      have HR : Hid (∃ l', Ri w0 (wr.drewN m) hb S s Q p p l') := ⟨l', HS.out.stop HB.out m⟩
      generalize wr.drewN m = W at *
      go_wp2_with fail
      exact bodyPost_ret (v := .tuple #[]) (results_none rfl _ _ _) rfl ⟨rfl, HR.out⟩
    · have hfc' : ¬ ((P S.l.length s f : Int) = (P S.l.length s c : Int)) := fun q => hfc (P_inj hs hcn hf0 q)
      have hcf : Hid (c < f) := by
        obtain ⟨f1, f2, _⟩ := HB.out.ff.resolve_left hfc
        have := up_lt f1
        unfold Hid
        omega
      have h41 : Hid (∀ m, Calls Try.prog 84 #[.pointer (some ⟨hb, 0, none⟩), .int .i64 (P S.l.length s c), .int .i64 (P S.l.length s f)] (wr.drewN m) fun e w1 => e = .returned (.tuple #[]) ∧ Hid (Calls Try.prog 85 #[.pointer (some ⟨hb, 0, none⟩), .int .i64 f] w1 fun e w2 => e = .returned (.tuple #[]) ∧ Hid (∃ l', Sk w0 w2 hb S s Q p f l'))) := HS.out.go hs HB.out hfc
      have hdiv : (P S.l.length s f : Int) / 2 = (f : Int) := by have := P_half (n := S.l.length) hf0 hs; omega
      have hpf0 : 0 ≤ (P S.l.length s f : Int) := by omega
      have hpf1 : (P S.l.length s f : Int) ≤ 1048576 := by have := P_lt (s := s) hf0; have := HM.out; omega
      have hms : Hid (P S.l.length s c < P S.l.length s f ∧ P S.l.length s f < S.l.length) := ⟨P_mono hs hcf.out hf0, P_lt hf0⟩
      go_wp2_with (first | (go_at_call 84; refine (h41.out _).mono ?_; first | rintro e w1 rfl h37 | rintro e w1 ⟨rfl, h37⟩) | (go_at_call 85; refine h37.out.mono ?_; first | rintro e w2 rfl h2 | rintro e w2 ⟨rfl, h2⟩))
      refine ⟨?_, by have := hms.out; simp [intOf]; omega⟩
      obtain ⟨l2, h3⟩ := h2.out
      exact ⟨f, l2, rfl, h3⟩
set_option maxHeartbeats 1000000 in
theorem rise_S {w : World} {hb : Nat} {S : HS} {s : Nat} {Q : Nat → Prop} {p : Nat} {l : List Nat} {w0 : World} (hs : s ≤ 1) (h : Hid (Ri w0 w hb S s Q p p l)) :
    Calls Try.prog 87 #[.pointer (some ⟨hb, 0, none⟩), .int .i64 (P S.l.length s p), .int .i64 s] w fun e w' => e = .returned (.tuple #[]) ∧ ∃ l', Mv w0 w' hb S l' ∧ Fin' S.l.length (AA S.l.length s (S.wl l').v) (BB S.l.length s (S.wl l').v) Q p := by
  have HM : Hid (S.l.length ≤ 1048576) := by have q1 := h.out.mv.m.sm; have q2 := h.out.mv.len; rw [show (S.wl l).l = l from rfl] at q1; unfold Hid; omega
  go_enter Try.func87, Try.ntmps87
  go_wp2_with fail
  go_loopw [1] (fun t wr => ∃ c l', t = .int .i64 (P S.l.length s c) ∧ Hid (Ri w0 wr hb S s Q p c l')) (fun t _ => (intOf t).toNat)
  case atStart => exact ⟨p, l, rfl, h.out⟩
  case round =>
    obtain ⟨c, l', rfl, HS⟩ := hrel
    have hcn : 2 * c < S.l.length := by have := HS.out.i.cp; have := HS.out.i.hp; omega
    have hp0 : 0 ≤ (P S.l.length s c : Int) := by omega
    have hp1 : (P S.l.length s c : Int) ≤ 1048576 := by have := P_lt (s := s) hcn; have := HM.out; omega
    have hdiv : (P S.l.length s c : Int) / 2 = (c : Int) := by have := P_half (n := S.l.length) hcn hs; omega
    by_cases hc : c = 0
    · have hz : ¬ 0 < (c : Int) := by omega
      have HR : Hid (∃ l', Mv w0 wr hb S l' ∧ Fin' S.l.length (AA S.l.length s (S.wl l').v) (BB S.l.length s (S.wl l').v) Q p) := ⟨l', HS.out.mv, HS.out.i.done fun q => by omega⟩
      clear hc
      go_wp2_with fail
      go_end0
      exact ⟨rfl, HR.out⟩
    · have hz : 0 < (c : Int) := by omega
      have hup : ((c : Int) - 1) / 2 = (up c : Int) := by unfold up; omega
      have H39 : Hid (Calls Try.prog 60 #[.pointer (some ⟨hb, 0, none⟩), .int .i64 (up c), .int .i64 s] wr fun e w' => e = .returned (.int .i64 (P S.l.length s (up c))) ∧ w' = wr) := HS.out.endq hs (by omega)
      have H42 : Hid (Calls Try.prog 99 #[.pointer (some ⟨hb, 0, none⟩), .int .i64 (P S.l.length s c), .int .i64 (P S.l.length s (up c)), .int .i64 s] wr fun e w' => e = .returned (.bool (decide (AA S.l.length s (S.wl l').v c < AA S.l.length s (S.wl l').v (up c)))) ∧ ∃ m, w' = wr.drewN m) := HS.out.outq hs (by omega)
      have hms : Hid (P S.l.length s (up c) < P S.l.length s c) := P_mono hs (up_lt (by omega)) hcn
      by_cases hlt : AA S.l.length s (S.wl l').v c < AA S.l.length s (S.wl l').v (up c)
      · rw [decide_eq_true hlt] at H42
        have H41 : Hid (∀ m, Calls Try.prog 84 #[.pointer (some ⟨hb, 0, none⟩), .int .i64 (P S.l.length s c), .int .i64 (P S.l.length s (up c))] (wr.drewN m) fun e w1 => e = .returned (.tuple #[]) ∧ Hid (∃ l', Ri w0 w1 hb S s Q p (up c) l')) := HS.out.go hs (by omega) hlt
        clear hlt hc
        go_wp2_with (first | (go_at_call 60; refine H39.out.mono ?_; first | rintro e w1 rfl rfl | rintro e w1 ⟨rfl, rfl⟩) | (go_at_call 99; refine H42.out.mono ?_; first | rintro e w2 rfl m rfl | rintro e w2 ⟨rfl, m, rfl⟩) | (go_at_call 84; refine (H41.out _).mono ?_; first | rintro e w2 rfl h2 | rintro e w2 ⟨rfl, h2⟩))
        refine ⟨?_, by have := hms.out; simp [intOf]; omega⟩
        obtain ⟨l2, h3⟩ := h2.out
        exact ⟨up c, l2, rfl, h3⟩
      · rw [decide_eq_false hlt] at H42
        have HR : Hid (∀ m, ∃ l', Mv w0 (wr.drewN m) hb S l' ∧ Fin' S.l.length (AA S.l.length s (S.wl l').v) (BB S.l.length s (S.wl l').v) Q p) := fun m => ⟨l', HS.out.mv.drew m, HS.out.i.done fun q => by omega⟩
        clear hlt hc
        go_wp2_with (first | (go_at_call 60; refine H39.out.mono ?_; first | rintro e w1 rfl rfl | rintro e w1 ⟨rfl, rfl⟩) | (go_at_call 99; refine H42.out.mono ?_; first | rintro e w2 rfl m rfl | rintro e w2 ⟨rfl, m, rfl⟩))
        exact bodyPost_ret (v := .tuple #[]) (results_none rfl _ _ _) rfl ⟨rfl, HR.out _⟩
end Go.Proofs.Ythlbeofonbbbdaa
