/-
  below.
-/
import Derived.Test.YthlbeofonbbbdaaNe
namespace Go.Proofs.Ythlbeofonbbbdaa
open Go.RowKit Go.Maps

/-- what below has seen of the children ahead of k -/
structure Bl (n s : Nat) (v : Nat → Int) (c k f : Nat) : Prop where
  ff : f = c ∨ (1 ≤ f ∧ up f = c ∧ AA n s v f < AA n s v c)
  fn : 2 * f < n
  mc : AA n s v f ≤ AA n s v c
  me : ∀ e, 1 ≤ e → 2 * e < n → up e = c → e < k → AA n s v f ≤ AA n s v e
section
variable {n s c k f : Nat} {v : Nat → Int}
theorem Bl.start (hc : 2 * c < n) : Bl n s v c (2 * c + 1) c := ⟨.inl rfl, hc, Int.le_refl _, fun e h1 _ h2 h3 => by unfold up at h2; omega⟩
theorem Bl.yes (h : Bl n s v c k f) (hk : up k = c) (k1 : 1 ≤ k) (hn : 2 * k < n) (hl : AA n s v k < AA n s v f) : Bl n s v c (k + 1) k := by
  have := h.mc
  refine ⟨.inr ⟨k1, hk, by omega⟩, hn, by omega, fun e h1 h2 h3 h4 => ?_⟩
  by_cases q : e = k
  · subst q; exact Int.le_refl _
  · have := h.me e h1 h2 h3 (by omega); omega
theorem Bl.no (h : Bl n s v c k f) (hl : ¬ AA n s v k < AA n s v f) : Bl n s v c (k + 1) f := by
  refine ⟨h.ff, h.fn, h.mc, fun e h1 h2 h3 h4 => ?_⟩
  by_cases q : e = k
  · subst q; omega
  · exact h.me e h1 h2 h3 (by omega)
theorem Bl.out (h : Bl n s v c k f) (hk : 2 * c + 2 < k ∨ n ≤ 2 * k) : Bl n s v c (2 * c + 3) f := ⟨h.ff, h.fn, h.mc, fun e h1 h2 h3 h4 => h.me e h1 h2 h3 (by unfold up at h3; omega)⟩
end
theorem outB_eq {S : HS} {s i j : Nat} (hs : s ≤ 1) (hi : 2 * i < S.l.length) (hj : 2 * j < S.l.length) : outB S s (P S.l.length s i) (P S.l.length s j) = decide (AA S.l.length s S.v i < AA S.l.length s S.v j) := by
  unfold outB
  rw [AA_eq hi hs, AA_eq hj hs]
set_option maxHeartbeats 1000000 in
theorem below_raw (w : World) (hb n c0 s c pa : Nat) (a : Option Addr) (v : Nat → Int) (c2 : w.cell? ⟨hb, 2, none⟩ = some (.slice a n c0)) (hn : n ≤ 1048576) (hs : s ≤ 1) (hc : 2 * c < n) (hpa : pa = P n s c)
    (H39 : Hid (∀ p m, 2 * p < n → Calls Try.prog 60 #[.pointer (some ⟨hb, 0, none⟩), .int .i64 p, .int .i64 s] (w.drewN m) fun e w' => e = .returned (.int .i64 (P n s p)) ∧ w' = w.drewN m))
    (H42 : Hid (∀ i j m, 2 * i < n → 2 * j < n → Calls Try.prog 99 #[.pointer (some ⟨hb, 0, none⟩), .int .i64 (P n s i), .int .i64 (P n s j), .int .i64 s] (w.drewN m) fun e w' => e = .returned (.bool (decide (AA n s v i < AA n s v j))) ∧ ∃ m', w' = (w.drewN m).drewN m')) :
    Calls Try.prog 100 #[.pointer (some ⟨hb, 0, none⟩), .int .i64 pa, .int .i64 s] w fun e w' => ∃ f, e = .returned (.int .i64 (P n s f)) ∧ Bl n s v c (2 * c + 3) f ∧ ∃ m, w' = w.drewN m := by
  have q1 : (pa : Int) / 2 = (c : Int) := by rw [hpa]; unfold P; omega
  have q0 : 0 ≤ (pa : Int) := by omega
  have q2 : (pa : Int) ≤ 1048576 := by rw [hpa]; have := P_lt (s := s) hc; omega
  have q3 : (c : Int) ≤ 1048576 := by omega
  have HPA : Hid (pa = P n s c) := hpa
  have HNN : Hid (n ≤ 1048576 ∧ 2 * c < n) := ⟨hn, hc⟩
  clear hpa hs hn hc
  go_enter Try.func100, Try.ntmps100
  go_wp2_with fail
  go_loopw [8, 9] (fun t8 t9 wr => ∃ f k : Nat, t8 = .int .i64 (P n s f) ∧ t9 = .int .i64 k ∧ 2 * c + 1 ≤ k ∧ k ≤ 2 * c + 3 ∧ Hid (Bl n s v c k f) ∧ ∃ m, wr = w.drewN m) (fun _ t9 _ => 2 * c + 3 - (intOf t9).toNat)
  case atStart => exact ⟨c, 2 * c + 1, by rw [HPA.out], by go_num, by omega, by omega, Bl.start HNN.out.2, 0, rfl⟩
  case round =>
    obtain ⟨f, k, rfl, rfl, hk1, hk2, HB, m, rfl⟩ := hrel
    have k1 : (k : Int) ≤ 3000000 := by have := HNN.out; omega
    have cd : (w.drewN m).cell? ⟨hb, 2, none⟩ = some (.slice a n c0) := c2
    have HW : Hid (∀ n, ∃ k, (w.drewN m).drewN n = w.drewN k) := drew2 m
    by_cases hk3 : k ≤ 2 * c + 2
    · have g1 : (k : Int) ≤ 2 * (c : Int) + 2 := by omega
      by_cases hk4 : 2 * k < n
      · have g2 : 2 * (k : Int) < (n : Int) := by omega
        have HE := H39.out k m hk4
        have hup : Hid (up k = c) := by unfold Hid up; omega
        have HO : Hid (Calls Try.prog 99 #[.pointer (some ⟨hb, 0, none⟩), .int .i64 (P n s k), .int .i64 (P n s f), .int .i64 s] (w.drewN m) fun e w' => e = .returned (.bool (decide (AA n s v k < AA n s v f))) ∧ ∃ m', w' = (w.drewN m).drewN m') := H42.out k f m hk4 HB.out.fn
        generalize w.drewN m = W at *
        by_cases hl : AA n s v k < AA n s v f
        · rw [decide_eq_true hl] at HO
          have B2 : Hid (Bl n s v c (k + 1) k) := HB.out.yes hup.out (by omega) hk4 hl
          clear hl HB
          go_wp2_with (first | (go_at_call 60; refine HE.mono ?_; rintro e w1 ⟨rfl, rfl⟩) | (go_at_call 99; refine HO.out.mono ?_; rintro e w1 ⟨rfl, m', rfl⟩))
          exact ⟨⟨k, k + 1, rfl, by go_num, by omega, by omega, B2, HW.out _⟩, by simp [intOf]; omega⟩
        · rw [decide_eq_false hl] at HO
          have B2 : Hid (Bl n s v c (k + 1) f) := HB.out.no hl
          clear hl HB
          go_wp2_with (first | (go_at_call 60; refine HE.mono ?_; rintro e w1 ⟨rfl, rfl⟩) | (go_at_call 99; refine HO.out.mono ?_; rintro e w1 ⟨rfl, m', rfl⟩))
          exact ⟨⟨f, k + 1, rfl, by go_num, by omega, by omega, B2, HW.out _⟩, by simp [intOf]; omega⟩
      · have g2 : ¬ 2 * (k : Int) < (n : Int) := by omega
        have B2 : Hid (Bl n s v c (2 * c + 3) f) := HB.out.out (.inr (by omega))
        have HM : Hid (∃ m', w.drewN m = w.drewN m') := ⟨m, rfl⟩
        generalize w.drewN m = W at *
        clear HB
        go_wp2_with fail
        go_ret
        exact ⟨f, rfl, B2.out, HM.out⟩
    · have g1 : ¬ (k : Int) ≤ 2 * (c : Int) + 2 := by omega
      have B2 : Hid (Bl n s v c (2 * c + 3) f) := HB.out.out (.inl (by omega))
      have HM : Hid (∃ m', w.drewN m = w.drewN m') := ⟨m, rfl⟩
      generalize w.drewN m = W at *
      clear HB
      go_wp2_with fail
      go_ret
      exact ⟨f, rfl, B2.out, HM.out⟩
section
variable {w w' : World} {hb : Nat} {S : HS}
theorem below_S (h : Mem w hb S) {c s : Nat} (hs : s ≤ 1) (hc : 2 * c < S.l.length) :
    Calls Try.prog 100 #[.pointer (some ⟨hb, 0, none⟩), .int .i64 (P S.l.length s c), .int .i64 s] w fun e w' => ∃ f, e = .returned (.int .i64 (P S.l.length s f)) ∧ Bl S.l.length s S.v c (2 * c + 3) f ∧ ∃ m, w' = w.drewN m := by
  obtain ⟨a, c0, e⟩ := h.fm.shape
  refine below_raw w hb S.l.length c0 s c _ a S.v (by rw [h.c2, e]) h.sm hs hc rfl (fun p m hp => ?_) (fun i j m hi hj => ?_)
  · exact end_S (h.drew m) hp hs
  · rw [← outB_eq hs hi hj]
    exact out_S (h.drew m) (P_lt hi) (P_lt hj) hs
end
end Go.Proofs.Ythlbeofonbbbdaa
