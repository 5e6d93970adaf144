/-
  Take.
-/
import Derived.Test.YtkfpbpkadkhhnaaPj
namespace Go.Proofs.Ytkfpbpkadkhhnaa
open Go.RowKit Go.Maps

set_option maxHeartbeats 400000 in
theorem take_nil (w : World) (a b : Int) (v : V) : Calls Try.prog 15 #[.pointer none, .int .i64 a, .int .i64 b, .agg #[.int .i64 v.a, .int .i64 v.b, .int .i64 v.c, .int .i64 v.d]] w fun e w' => e = .returned (.int .i64 10) ∧ Below w.heap.size w w' := by
  go_enter Try.func15, Try.ntmps15
  go_wp2_with fail
  go_ret
  exact ⟨rfl, by go_grown⟩
set_option maxHeartbeats 400000 in
theorem take_bad (w : World) (pb : Nat) (a b : Int) (v : V) (hv : v.ok = false) : Calls Try.prog 15 #[.pointer (some ⟨pb, 0, none⟩), .int .i64 a, .int .i64 b, .agg #[.int .i64 v.a, .int .i64 v.b, .int .i64 v.c, .int .i64 v.d]] w fun e w' => e = .returned (.int .i64 4) ∧ Below w.heap.size w w' := by
  have H : Hid (∀ w, Calls Try.prog 22 #[.agg #[.int .i64 v.a, .int .i64 v.b, .int .i64 v.c, .int .i64 v.d]] w fun e w' => e = .returned (.bool false) ∧ Below w.heap.size w w') := fun w => by have := formed_V v w; rwa [hv] at this
  clear hv
  go_enter Try.func15, Try.ntmps15
  go_wp2_with (go_at_call 22; refine (H.out _).mono ?_)
  first | rintro e w1 rfl b1 | rintro e w1 ⟨rfl, b1⟩
  have y1 : Hid (Below w.heap.size w w1) := Below.trans (by go_grown) (b1.mono (by simp))
  go_wp2_with fail
  go_ret
  exact ⟨rfl, y1.out⟩
set_option maxHeartbeats 400000 in
theorem take_range (w : World) (pb : Nat) (a b : Int) (v : V) (hv : v.ok = true) (hs : spn a b = false) : Calls Try.prog 15 #[.pointer (some ⟨pb, 0, none⟩), .int .i64 a, .int .i64 b, .agg #[.int .i64 v.a, .int .i64 v.b, .int .i64 v.c, .int .i64 v.d]] w fun e w' => e = .returned (.int .i64 2) ∧ Below w.heap.size w w' := by
  have H : Hid (∀ w, Calls Try.prog 22 #[.agg #[.int .i64 v.a, .int .i64 v.b, .int .i64 v.c, .int .i64 v.d]] w fun e w' => e = .returned (.bool true) ∧ Below w.heap.size w w') := fun w => by have := formed_V v w; rwa [hv] at this
  have H19 : Hid (∀ w, Calls Try.prog 19 #[.pointer (some ⟨pb, 0, none⟩), .int .i64 a, .int .i64 b] w fun e w' => e = .returned (.tuple #[.agg #[.int .i64 0, .int .i64 0, .int .i64 0, .int .i64 0], .int .i64 2]) ∧ Below w.heap.size w w') := fun w => least_bad w _ a b hs
  clear hv hs
  go_enter Try.func15, Try.ntmps15
  go_wp2_with (go_at_call 22; refine (H.out _).mono ?_)
  first | rintro e w1 rfl b1 | rintro e w1 ⟨rfl, b1⟩
  have y1 : Hid (Below w.heap.size w w1) := Below.trans (by go_grown) (b1.mono (by simp))
  clear H b1
  go_wp2_with (go_at_call 19; refine (H19.out _).mono ?_)
  first | rintro e w2 rfl b2 | rintro e w2 ⟨rfl, b2⟩
  have y2 : Hid (Below w.heap.size w w2) := y1.out.trans (b2.mono y1.out.size)
  clear b2
  go_wp2_with fail
  go_ret
  exact ⟨rfl, y2.out.alloc y2.out.size _⟩
set_option maxHeartbeats 2000000 in
theorem take_go (w : World) (pb : Nat) (a b : Int) (v : V) (n : Nat) (hn : n ≤ 4096) (hv : v.ok = true) (P : V → Prop) (R : Int → World → Prop) (hpb : pb < w.heap.size)
    (H19 : Hid (∀ W, Below w.heap.size w W → Calls Try.prog 19 #[.pointer (some ⟨pb, 0, none⟩), .int .i64 a, .int .i64 b] W fun e w' => (∃ m : V, e = .returned (.tuple #[.agg #[.int .i64 m.a, .int .i64 m.b, .int .i64 m.c, .int .i64 m.d], .int .i64 0]) ∧ Hid (P m)) ∧ Below W.heap.size W w'))
    (HC : Hid (∀ W, Below w.heap.size w W → W.cell? ⟨pb, 5, none⟩ = some (.int .i64 n) ∧ W.frozen? ⟨pb, 5, none⟩ = false))
    (HF : Hid (∀ W, Below w.heap.size w W → n = 4096 → R 6 W)) (HO : Hid (∀ m W, P m → Below w.heap.size w W → n < 4096 → ¬ v.le m → R 7 W))
    (HK : Hid (∀ m W, P m → Below w.heap.size w W → n < 4096 → v.le m → Calls Try.prog 28 #[.pointer (some ⟨pb, 0, none⟩), .int .i64 a, .int .i64 b, .agg #[.int .i64 v.a, .int .i64 v.b, .int .i64 v.c, .int .i64 v.d]] (W.setCell ⟨pb, 5, none⟩ (.int .i64 ((n : Int) + 1))) fun e w' => e = .returned (.tuple #[]) ∧ Hid (R 0 w'))) :
    Calls Try.prog 15 #[.pointer (some ⟨pb, 0, none⟩), .int .i64 a, .int .i64 b, .agg #[.int .i64 v.a, .int .i64 v.b, .int .i64 v.c, .int .i64 v.d]] w fun e w' => ∃ c : Int, e = .returned (.int .i64 c) ∧ R c w' := by
  have H : Hid (∀ w, Calls Try.prog 22 #[.agg #[.int .i64 v.a, .int .i64 v.b, .int .i64 v.c, .int .i64 v.d]] w fun e w' => e = .returned (.bool true) ∧ Below w.heap.size w w') := fun w => by have := formed_V v w; rwa [hv] at this
  clear hv
  go_enter Try.func15, Try.ntmps15
  go_wp2_with (go_at_call 22; refine (H.out _).mono ?_)
  first | rintro e w1 rfl b1 | rintro e w1 ⟨rfl, b1⟩
  have z1 := at_below b1 (by simp) new0
  have y1 : Hid (Below w.heap.size w w1) := Below.trans (by go_grown) (b1.mono (by simp))
  clear H b1
  go_wp2_with (go_at_call 19; refine (H19.out _ y1.out).mono ?_)
  rintro e w2 ⟨⟨m, rfl, hP⟩, b2⟩
  have z2 := at_below b2 (Nat.le_refl _) z1
  have y2 : Hid (Below w.heap.size w w2) := y1.out.trans (b2.mono y1.out.size)
  clear b2 H19 y1 z1
  obtain ⟨O, hO⟩ : ∃ O : Obj, O = .cells #[.int .i64 m.a, .int .i64 m.b, .int .i64 m.c, .int .i64 m.d] 23 (0, 0) := ⟨_, rfl⟩
  have z3 : Bx (w2.alloc O) w.heap.size v := at_alloc z2
  have z4 : Bx (w2.alloc O) w2.heap.size m := by rw [hO]; exact new0
  have y3 : Hid (Below w.heap.size w (w2.alloc O)) := y2.out.alloc y2.out.size _
  obtain ⟨c5, f5⟩ := HC.out _ y2.out
  have e5 : pb < w2.heap.size := by have := y2.out.size; omega
  obtain ⟨q5, qf5⟩ := HC.out _ y3.out
  by_cases hfull : n = 4096
  · subst hfull
    go_wp2_with fail
    go_ret
    exact ⟨6, rfl, by rw [← hO]; exact HF.out _ y3.out (by simp)⟩
  · have hn' : decide ((4096 : Int) ≤ (n : Int)) = false := decide_eq_false (by omega)
    have hlt : Hid (n < 4096) := by show n < 4096; omega
    obtain ⟨x0, x1, x2, x3, xf0, xf1, xf2, xf3, xs, xn⟩ := cells4 z2
    obtain ⟨bt, hbt⟩ : ∃ bt, bt = decide (v.le m) := ⟨_, rfl⟩
    have HT : Hid (bt = decide (v.le m)) := hbt
    have H27 : Hid (Calls Try.prog 27 #[.agg #[.int .i64 v.a, .int .i64 v.b, .int .i64 v.c, .int .i64 v.d], .agg #[.int .i64 m.a, .int .i64 m.b, .int .i64 m.c, .int .i64 m.d]] (w2.alloc (.cells #[.int .i64 m.a, .int .i64 m.b, .int .i64 m.c, .int .i64 m.d] 23)) fun e w3 => e = .returned (.bool bt) ∧ Hid (Below w.heap.size w w3 ∧ Bx w3 w.heap.size v)) := by
      refine (fits_V v m _).mono ?_
      rintro e w3 ⟨rfl, b3⟩
      have y3' := y3.out
      rw [hO] at y3' z3
      exact ⟨by rw [hbt], y3'.trans (b3.mono y3'.size), at_below b3 (Nat.le_refl _) z3⟩
    clear hbt
    go_wp2_with (go_at_call 27; refine H27.out.mono ?_)
    first | rintro e w3 rfl h3 | rintro e w3 ⟨rfl, h3⟩
    clear H27 x0 x1 x2 x3 xf0 xf1 xf2 xf3 xs xn q5 qf5 c5 f5 e5 z2 z3 z4 y2 y3 HF hO
    obtain ⟨x0, x1, x2, x3, xf0, xf1, xf2, xf3, xs, xn⟩ := cells4 h3.out.2
    obtain ⟨c5, f5⟩ := HC.out _ h3.out.1
    cases bt
    · have hC : Hid (¬ v.le m) := of_decide_eq_false HT.out.symm
      go_wp2_with fail
      go_ret
      exact ⟨7, rfl, HO.out m _ hP.out h3.out.1 hlt.out hC.out⟩
    · have hC0 : v.le m := of_decide_eq_true HT.out.symm
      have hw : IntKind.i64.wrap ((n : Int) + 1) = (n : Int) + 1 := by rw [IntKind.wrap_i64]; omega
      have hne : ¬ w.heap.size = pb := by omega
      have H28 : Hid (Calls Try.prog 28 #[.pointer (some ⟨pb, 0, none⟩), .int .i64 a, .int .i64 b, .agg #[.int .i64 v.a, .int .i64 v.b, .int .i64 v.c, .int .i64 v.d]] (w3.setCell ⟨pb, 5, none⟩ (.int .i64 ((n : Int) + 1))) fun e w' => e = .returned (.tuple #[]) ∧ Hid (R 0 w')) := HK.out m _ hP.out h3.out.1 hlt.out hC0
      clear hC0 HK HO
      go_wp2_with (go_at_call 28; refine H28.out.mono ?_)
      first | rintro e w4 rfl h4 | rintro e w4 ⟨rfl, h4⟩
      go_wp2_with fail
      go_ret
      exact ⟨0, rfl, h4.out⟩
/-- v is free over the span -/
def Fits (f : Int → V) (a b : Int) (v : V) : Prop := ∀ u, a ≤ u → u < b → v.le (f u)
noncomputable instance (f : Int → V) (a b : Int) (v : V) : Decidable (Fits f a b v) := Classical.propDecidable _
/-- what Take answers -/
noncomputable def tkC (f : Int → V) (n : Nat) (a b : Int) (v : V) : Int :=
  if v.ok = false then 4 else if spn a b = false then 2 else if n = 4096 then 6 else if ¬ Fits f a b v then 7 else 0
theorem tkC_zero {f : Int → V} {n : Nat} {a b : Int} {v : V} (h : tkC f n a b v = 0) : v.ok = true ∧ spn a b = true ∧ n ≠ 4096 ∧ Fits f a b v := by
  unfold tkC at h
  split at h
  · omega
  · rename_i h1
    split at h
    · omega
    · rename_i h2
      split at h
      · omega
      · rename_i h3
        split at h
        · omega
        · rename_i h4
          exact ⟨by simpa using h1, by simpa using h2, h3, Classical.not_not.1 h4⟩
theorem spn_iff {a b : Int} : spn a b = true ↔ 0 ≤ a ∧ a < b ∧ b ≤ 1099511627776 := by unfold spn; simp
/-- a profile's state is whole -/
structure Ok (S : PS) : Prop where
  p : Pf S.C S.l
  n : S.n ≤ 4096
  l : S.l.length ≤ 2 * S.n
/-- what a Take leaves -/
structure Tk (w w' : World) (pb : Nat) (S S' : PS) (a b : Int) (v : V) : Prop where
  m : Mem w' pb S'
  o : Ok S'
  c : S'.C = S.C
  g : Chg pb S S' w w'
  f : tkC (fa S.C S.l) S.n a b v = 0 → S'.n = S.n + 1 ∧ ∀ u, fa S'.C S'.l u = tkF (fa S.C S.l) a b v u
  k : tkC (fa S.C S.l) S.n a b v ≠ 0 → S' = S
theorem Tk.same {w w' : World} {pb : Nat} {S : PS} {a b : Int} {v : V} (h : Mem w pb S) (hO : Ok S) (b' : Below w.heap.size w w') (hc : tkC (fa S.C S.l) S.n a b v ≠ 0) : Tk w w' pb S S a b v :=
  ⟨h.below b', hO, rfl, Chg.of_below b', fun q => absurd q hc, fun _ => rfl⟩
theorem Mem.count {w : World} {pb : Nat} {S : PS} (h : Mem w pb S) (n : Nat) : Mem (w.setCell ⟨pb, 5, none⟩ (.int .i64 n)) pb { S with n := n } :=
  ⟨setB (i := 5) h.hp _, h.rw.keep fun g hg => Below.heap_setCell _ _ _ _ (fun e => h.ne (by rw [hg]; exact congrArg some e))⟩
theorem take_any {w : World} {pb : Nat} {S : PS} (h : Mem w pb S) (hO : Ok S) (a b : Int) (v : V) :
    Calls Try.prog 15 #[.pointer (some ⟨pb, 0, none⟩), .int .i64 a, .int .i64 b, .agg #[.int .i64 v.a, .int .i64 v.b, .int .i64 v.c, .int .i64 v.d]] w fun e w' => e = .returned (.int .i64 (tkC (fa S.C S.l) S.n a b v)) ∧ ∃ S', Tk w w' pb S S' a b v := by
  have hn := hO.n
  have hl := hO.l
  by_cases hv : v.ok = false
  · have hc : tkC (fa S.C S.l) S.n a b v = 4 := by unfold tkC; rw [if_pos hv]
    refine (take_bad w pb a b v hv).mono ?_
    rintro e w' ⟨rfl, b1⟩
    exact ⟨by rw [hc], S, Tk.same h hO b1 (by rw [hc]; decide)⟩
  · have hv' : v.ok = true := by simpa using hv
    by_cases hs : spn a b = false
    · have hc : tkC (fa S.C S.l) S.n a b v = 2 := by unfold tkC; rw [if_neg hv, if_pos hs]
      refine (take_range w pb a b v hv' hs).mono ?_
      rintro e w' ⟨rfl, b1⟩
      exact ⟨by rw [hc], S, Tk.same h hO b1 (by rw [hc]; decide)⟩
    · have hs' : spn a b = true := by simpa using hs
      obtain ⟨ha, hab, hb⟩ := spn_iff.1 hs'
      have hc : tkC (fa S.C S.l) S.n a b v = if S.n = 4096 then 6 else if ¬ Fits (fa S.C S.l) a b v then 7 else 0 := by unfold tkC; rw [if_neg hv, if_neg hs]
      refine (take_go w pb a b v S.n hn hv' (Lst (fa S.C S.l) a b) (fun c w' => c = tkC (fa S.C S.l) S.n a b v ∧ ∃ S', Tk w w' pb S S' a b v) (h.lt pb (.inl rfl)) ?_ ?_ ?_ ?_ ?_).mono ?_
      · intro W bW
        exact least_good (h.below bW) hO.p.srt (by omega) a b hs'
      · intro W bW
        have := h.below bW
        exact ⟨this.cells.2.2.2.2.2, fz this.hp _⟩
      · intro W bW e
        rw [if_pos e] at hc
        exact ⟨hc.symm, S, Tk.same h hO bW (by rw [hc]; decide)⟩
      · intro m W hm bW hlt hvm
        have hnF : ¬ Fits (fa S.C S.l) a b v := fun q => hvm (hm.le_iff.2 q)
        rw [if_neg (by omega), if_pos hnF] at hc
        exact ⟨hc.symm, S, Tk.same h hO bW (by rw [hc]; decide)⟩
      · intro m W hm bW hlt hvm
        have hF : Fits (fa S.C S.l) a b v := hm.le_iff.1 hvm
        rw [if_neg (by omega), if_neg (fun q => q hF)] at hc
        have hM := (h.below bW).count (S.n + 1)
        have hcast : ((S.n + 1 : Nat) : Int) = (S.n : Int) + 1 := by omega
        rw [hcast] at hM
        refine (lower_any hM hO.p (show S.l.length ≤ 50000 by omega) a b v hab hv' hF).mono ?_
        rintro e w' ⟨rfl, S', q⟩
        have e1 : S'.C = S.C := q.c
        have e2 : S'.n = S.n + 1 := q.n
        have t : Tkn S.C S.l a b v S'.l := q.t
        have tl := t.len
        refine ⟨rfl, hc.symm, S', q.m, ⟨?_, by omega, by omega⟩, e1, ?_, fun _ => ⟨e2, fun u => ?_⟩, fun hne => absurd hc hne⟩
        · rw [e1]; exact hO.p.take ha hab hb hv' hF t
        · refine ⟨?_, ?_⟩
          · have k1 : Kp (Fp pb S) w W := Kp.of_below bW
            have k2 : Kp (Fp pb S) W (W.setCell ⟨pb, 5, none⟩ (.int .i64 ((S.n : Int) + 1))) := Kp.of_set _ _ _ (.inl rfl)
            exact (k1.trans k2 fun _ _ q => q).trans q.g.kp fun _ _ q => q
          · intro k hk
            rcases q.g.fp k hk with q | q
            · exact .inl q
            · refine .inr (Nat.le_trans bW.size (Nat.le_trans ?_ q))
              simp [World.setCell]
        · rw [e1]; exact t.fa u
      · rintro e w' ⟨c, rfl, hc, S', q⟩
        exact ⟨by rw [hc], S', q⟩
end Go.Proofs.Ytkfpbpkadkhhnaa
