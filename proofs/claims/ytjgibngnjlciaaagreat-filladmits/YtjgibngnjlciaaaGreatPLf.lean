/-
  lower, whole. Take. One profile in a law; awake. Plain mathematics: takes in any order.
-/
import Derived.Test.YtjgibngnjlciaaaGreatPPi
namespace Go.Proofs.YtjgibngnjlciaaaGreat
open Go.RowKit Go.Maps

structure LQ1 (w0 W : World) (pb bx : Nat) (S : PS) (a : Int) (v : V) (p : Nat) : Prop where
  s : ∃ S1, SplR w0 W pb S S1 a p
  b : Bx W bx v
structure LR (w0 W : World) (pb bx : Nat) (S S1 S2 : PS) (a b : Int) (v : V) (p q i : Nat) : Prop where
  s1 : Spl S.C S.l a S1.l p
  s2 : Spl S.C S1.l b S2.l q
  c : S2.C = S.C
  n : S2.n = S.n
  m : Mem W pb (S2.wl S2.lv (lowS S2.l p i v))
  b : Bx W bx v
  g : Chg pb S (S2.wl S2.lv (lowS S2.l p i v)) w0 W
  hi : p ≤ i
  hq : i ≤ q
structure LJ (w0 W : World) (pb : Nat) (S S1 S2 S3 : PS) (a b : Int) (v : V) (p q : Nat) : Prop where
  s1 : Spl S.C S.l a S1.l p
  s2 : Spl S.C S1.l b S2.l q
  c : S3.C = S.C
  n : S3.n = S.n
  l : S3.l = jnS S.C (lowS S2.l p q v) q
  m : Mem W pb S3
  g : Chg pb S S3 w0 W
/-- what a take leaves -/
structure TkR (w w' : World) (pb : Nat) (S S' : PS) (a b : Int) (v : V) : Prop where
  m : Mem w' pb S'
  c : S'.C = S.C
  n : S'.n = S.n
  t : Tkn S.C S.l a b v S'.l
  g : Chg pb S S' w w'
theorem Row.set4_kp (w : World) (g o1 o2 o3 o4 : Nat) (x1 x2 x3 x4 : Value) : Kp (fun k => k = g) w ((((w.setCell ⟨g, o1, none⟩ x1).setCell ⟨g, o2, none⟩ x2).setCell ⟨g, o3, none⟩ x3).setCell ⟨g, o4, none⟩ x4) :=
  (((Kp.of_set (S := fun k => k = g) w ⟨g, o1, none⟩ x1 rfl).trans (Kp.of_set (S := fun k => k = g) _ ⟨g, o2, none⟩ x2 rfl) fun _ _ q => q).trans (Kp.of_set (S := fun k => k = g) _ ⟨g, o3, none⟩ x3 rfl) fun _ _ q => q).trans (Kp.of_set (S := fun k => k = g) _ ⟨g, o4, none⟩ x4 rfl) fun _ _ q => q
theorem lower_any {w : World} {pb : Nat} {S : PS} (h : Mem w pb S) (hP : Pf S.C S.l) (hn : S.l.length ≤ 50000) (a b : Int) (v : V) (hab : a < b) (hv : v.ok = true) (hf : ∀ u, a ≤ u → u < b → v.le (fa S.C S.l u)) :
    Calls Tryz.prog 63 #[.pointer (some ⟨pb, 0, none⟩), .int .i64 a, .int .i64 b, .agg #[.int .i64 v.a, .int .i64 v.b, .int .i64 v.c, .int .i64 v.d]] w fun e w' => e = .returned (.tuple #[]) ∧ ∃ S', TkR w w' pb S S' a b v := by
  obtain ⟨W0, hW0⟩ : ∃ W0, W0 = w.alloc (.cells #[.int .i64 v.a, .int .i64 v.b, .int .i64 v.c, .int .i64 v.d] 40) := ⟨_, rfl⟩
  have hB0 : Below w.heap.size w W0 := by rw [hW0]; exact (Below.refl _ w).alloc (Nat.le_refl _) _
  have h0 := h.below hB0
  have hbx0 : Bx W0 w.heap.size v := by rw [hW0]; exact new0
  have hnb := h0.bx hbx0
  refine low_raw w pb a b v w.heap.size (fun p W => LQ1 W0 W pb w.heap.size S a v p) (fun p q i W => ∃ S1 S2, LR W0 W pb w.heap.size S S1 S2 a b v p q i) (fun p W => ∃ S1 S2 S3 q, LJ W0 W pb S S1 S2 S3 a b v p q) (fun W => ∃ S', TkR w W pb S S' a b v) rfl ?_ ?_ ?_ ?_ ?_
  · rw [← hW0]
    refine (split_any h0 hP.srt (by omega) a).mono ?_
    rintro e w' ⟨p, S1, rfl, q⟩
    exact ⟨p, rfl, ⟨S1, q⟩, hbx0.off q.g.kp hnb⟩
  · intro p W hq
    obtain ⟨⟨S1, q1⟩, hb1⟩ := hq
    have l1 := q1.s.len
    refine (split_any q1.m q1.s.srt (by omega) b).mono ?_
    rintro e w' ⟨q, S2, rfl, q2⟩
    have s2 : Spl S.C S1.l b S2.l q := by have := q2.s; rwa [q1.c] at this
    have l2 := s2.len
    obtain ⟨hpq, s, r, e1, e2, e3, e4⟩ := spl_lt q1.s s2 hab
    have hql := (List.getElem?_eq_some_iff.1 e3).1
    refine ⟨q, rfl, ⟨by omega, by omega⟩, S1, S2, q1.s, s2, q2.c.trans q1.c, q2.n.trans q1.n, ?_, hb1.off q2.g.kp (q1.m.bx hb1), ?_, Nat.le_refl _, by omega⟩
    · rw [lowS_self]; exact q2.m
    · rw [lowS_self]; exact q1.g.trans q2.g
  · intro p q i W hR hiq
    obtain ⟨S1, S2, hR⟩ := hR
    obtain ⟨hpq, x, r, e1, e2, e3, e4⟩ := spl_lt hR.s1 hR.s2 hab
    have hql := (List.getElem?_eq_some_iff.1 e3).1
    have hil : i < S2.l.length := by omega
    have hi' := List.getElem?_eq_getElem hil
    obtain ⟨s, hs⟩ : ∃ s, S2.l[i]? = some s := ⟨_, hi'⟩
    have hsl := lowS_at (i := p) (v := v) hs
    have hll : (lowS S2.l p i v).length = S2.l.length := lowS_length _ _ _ _
    have ha : a ≤ s.at' := by
      by_cases e : i = p
      · subst e; rw [e1] at hs; cases hs; omega
      · have := hR.s2.srt.lt (show p < i by have := hR.hi; omega) e1 hs; omega
    have hb : s.at' < b := by have := hR.s2.srt.lt hiq hs e3; omega
    have hfs : fa S.C S.l s.at' = s.fr := by rw [← hR.s1.fa, ← hR.s2.fa, fa_at hR.s2.srt hs]
    have hok : s.fr.ok = true := by rw [← hfs]; exact (hP.fo _).1
    have hle : v.le s.fr := by rw [← hfs]; exact hf _ ha hb
    obtain ⟨g, c, e0⟩ := hR.m.rw.row (show 0 < (lowS S2.l p i v).length by omega)
    have e0' : S2.lv = .slice (some ⟨g, 0, none⟩) S2.l.length c := by have : S2.lv = .slice (some ⟨g, 0, none⟩) (lowS S2.l p i v).length c := e0; rwa [hll] at this
    have cell : ∀ w', Below W.heap.size W w' → Mem w' pb (S2.wl S2.lv (lowS S2.l p i v)) ∧ w'.cell? ⟨pb, 4, none⟩ = some (.slice (some ⟨g, 0, none⟩) S2.l.length c) ∧ Row w' (.slice (some ⟨g, 0, none⟩) S2.l.length c) (lowS S2.l p i v) := fun w' b => by
      have h1 := hR.m.below b
      have hr : Row w' S2.lv (lowS S2.l p i v) := h1.rw
      have c4 : w'.cell? ⟨pb, 4, none⟩ = some S2.lv := h1.cells.2.2.2.2.1
      rw [e0'] at hr c4
      exact ⟨h1, c4, hr⟩
    obtain ⟨m1, m2, m3⟩ := cell W (Below.refl _ _)
    obtain ⟨r0, r1, r2, r3, r4⟩ := m3.cells hsl
    obtain ⟨q0, q1, q2, q3, -⟩ := cells4 hR.b
    refine ⟨g, S2.l.length, c, s.fr, ⟨hil, m2, r1, r2, r3, r4, q0, q1, q2, q3⟩, ?_⟩
    have hB : Below W.heap.size W W.drew := (Below.refl _ W).drew
    refine (sub_V s.fr v _ hok hv hle).mono ?_
    rintro e w' ⟨rfl, b1⟩
    obtain ⟨k1, k2, k3⟩ := cell w' (hB.trans b1)
    obtain ⟨t0, t1, t2, t3, t4⟩ := k3.cells hsl
    refine ⟨rfl, ⟨k2, t1, t2, t3, t4, k3.fz _, k3.fz _, k3.fz _, k3.fz _⟩, S1, S2, hR.s1, hR.s2, hR.c, hR.n, ?_, ?_, ?_, by have := hR.hi; omega, by omega⟩
    · have h4 := k3.set4 hsl (s.fr.sub v)
      rw [lowS_succ hR.hi hs] at h4
      have hg : g ≠ pb := fun e => k1.ne (by show S2.lv.ownBlock = _; rw [e0', e]; rfl)
      refine ⟨?_, ?_⟩
      · exact ((Row.set4_kp w' g _ _ _ _ _ _ _ _).block pb (k1.lt pb (.inl rfl)) (Ne.symm hg)).trans k1.hp
      · show Row _ S2.lv _
        rw [e0']; exact h4
    · have hbw : Bx w' w.heap.size v := at_below (hB.trans b1) (Nat.le_refl _) hR.b
      exact hbw.off (Row.set4_kp w' g _ _ _ _ _ _ _ _) fun e => k1.bx hbw (.inr (by show S2.lv.ownBlock = _; rw [e0', ← e]; rfl))
    · refine hR.g.trans ⟨?_, fun k hk => .inl hk⟩
      refine Kp.trans (b := w') (Kp.of_below (hB.trans b1)) (Row.set4_kp w' g _ _ _ _ _ _ _ _) fun k _ q => .inr ?_
      show S2.lv.ownBlock = _
      rw [e0', q]; rfl
  · intro p q W hR
    obtain ⟨S1, S2, hR⟩ := hR
    obtain ⟨hpq, x, r, e1, e2, e3, e4⟩ := spl_lt hR.s1 hR.s2 hab
    have hql := (List.getElem?_eq_some_iff.1 e3).1
    have hll : (lowS S2.l p q v).length = S2.l.length := lowS_length _ _ _ _
    have l1 := hR.s1.len
    have l2 := hR.s2.len
    refine (join_any hR.m (show (lowS S2.l p q v).length ≤ 60000 by omega) (show q < (lowS S2.l p q v).length by omega)).mono ?_
    rintro e w' ⟨rfl, S3, j⟩
    refine ⟨rfl, S1, S2, S3, q, hR.s1, hR.s2, j.c.trans hR.c, j.n.trans hR.n, ?_, j.m, hR.g.trans j.g⟩
    rw [j.l]
    show jnS S2.C _ _ = _
    rw [hR.c]; rfl
  · intro p W hJ
    obtain ⟨S1, S2, S3, q, hJ⟩ := hJ
    obtain ⟨hpq, x, r, e1, e2, e3, e4⟩ := spl_lt hJ.s1 hJ.s2 hab
    have j1 := jn_any (C := S.C) (srt_low (i := p) (j := q) (v := v) hJ.s2.srt) (lowS_at e3)
    have l1 := hJ.s1.len
    have l2 := hJ.s2.len
    have l3 := j1.len
    rw [lowS_length, ← hJ.l] at l3
    have hpl : p < S3.l.length := by
      have : S3.l[p]? = (lowS S2.l p q v)[p]? := by rw [hJ.l]; exact j1.lo p hpq
      rw [lowS_get, e1] at this
      exact (List.getElem?_eq_some_iff.1 this).1
    refine (join_any hJ.m (by omega) hpl).mono ?_
    rintro e w' ⟨rfl, S4, j⟩
    refine ⟨rfl, S4, j.m, j.c.trans hJ.c, j.n.trans hJ.n, ?_, (Chg.of_below hB0).trans (hJ.g.trans j.g)⟩
    have := tkn_any v hP.nod hJ.s1 hJ.s2 hab
    rw [j.l, hJ.c, hJ.l]
    exact this
end Go.Proofs.YtjgibngnjlciaaaGreat

namespace Go.Proofs.YtjgibngnjlciaaaGreat
open Go.RowKit Go.Maps

set_option maxHeartbeats 400000 in
theorem take_nil (w : World) (a b : Int) (v : V) : Calls Tryz.prog 43 #[.pointer none, .int .i64 a, .int .i64 b, .agg #[.int .i64 v.a, .int .i64 v.b, .int .i64 v.c, .int .i64 v.d]] w fun e w' => e = .returned (.int .i64 10) ∧ Below w.heap.size w w' := by
  go_enter Tryz.func43, Tryz.ntmps43
  go_wp2_with fail
  go_ret
  exact ⟨rfl, by go_grown⟩
set_option maxHeartbeats 400000 in
theorem take_bad (w : World) (pb : Nat) (a b : Int) (v : V) (hv : v.ok = false) : Calls Tryz.prog 43 #[.pointer (some ⟨pb, 0, none⟩), .int .i64 a, .int .i64 b, .agg #[.int .i64 v.a, .int .i64 v.b, .int .i64 v.c, .int .i64 v.d]] w fun e w' => e = .returned (.int .i64 4) ∧ Below w.heap.size w w' := by
  have H : Hid (∀ w, Calls Tryz.prog 61 #[.agg #[.int .i64 v.a, .int .i64 v.b, .int .i64 v.c, .int .i64 v.d]] w fun e w' => e = .returned (.bool false) ∧ Below w.heap.size w w') := fun w => by have := formed_V v w; rwa [hv] at this
  clear hv
  go_enter Tryz.func43, Tryz.ntmps43
  go_wp2_with (go_at_call 61; refine (H.out _).mono ?_)
  first | rintro e w1 rfl b1 | rintro e w1 ⟨rfl, b1⟩
  have y1 : Hid (Below w.heap.size w w1) := Below.trans (by go_grown) (b1.mono (by simp))
  go_wp2_with fail
  go_ret
  exact ⟨rfl, y1.out⟩
set_option maxHeartbeats 400000 in
theorem take_range (w : World) (pb : Nat) (a b : Int) (v : V) (hv : v.ok = true) (hs : spn a b = false) : Calls Tryz.prog 43 #[.pointer (some ⟨pb, 0, none⟩), .int .i64 a, .int .i64 b, .agg #[.int .i64 v.a, .int .i64 v.b, .int .i64 v.c, .int .i64 v.d]] w fun e w' => e = .returned (.int .i64 2) ∧ Below w.heap.size w w' := by
  have H : Hid (∀ w, Calls Tryz.prog 61 #[.agg #[.int .i64 v.a, .int .i64 v.b, .int .i64 v.c, .int .i64 v.d]] w fun e w' => e = .returned (.bool true) ∧ Below w.heap.size w w') := fun w => by have := formed_V v w; rwa [hv] at this
  have H19 : Hid (∀ w, Calls Tryz.prog 62 #[.pointer (some ⟨pb, 0, none⟩), .int .i64 a, .int .i64 b] w fun e w' => e = .returned (.tuple #[.agg #[.int .i64 0, .int .i64 0, .int .i64 0, .int .i64 0], .int .i64 2]) ∧ Below w.heap.size w w') := fun w => least_bad w _ a b hs
  clear hv hs
  go_enter Tryz.func43, Tryz.ntmps43
  go_wp2_with (go_at_call 61; refine (H.out _).mono ?_)
  first | rintro e w1 rfl b1 | rintro e w1 ⟨rfl, b1⟩
  have y1 : Hid (Below w.heap.size w w1) := Below.trans (by go_grown) (b1.mono (by simp))
  clear H b1
  go_wp2_with (go_at_call 62; refine (H19.out _).mono ?_)
  first | rintro e w2 rfl b2 | rintro e w2 ⟨rfl, b2⟩
  have y2 : Hid (Below w.heap.size w w2) := y1.out.trans (b2.mono y1.out.size)
  clear b2
  go_wp2_with fail
  go_ret
  exact ⟨rfl, y2.out.alloc y2.out.size _⟩
set_option maxHeartbeats 2000000 in
theorem take_go (w : World) (pb : Nat) (a b : Int) (v : V) (n : Nat) (hn : n ≤ 4096) (hv : v.ok = true) (P : V → Prop) (R : Int → World → Prop) (hpb : pb < w.heap.size)
    (H19 : Hid (∀ W, Below w.heap.size w W → Calls Tryz.prog 62 #[.pointer (some ⟨pb, 0, none⟩), .int .i64 a, .int .i64 b] W fun e w' => (∃ m : V, e = .returned (.tuple #[.agg #[.int .i64 m.a, .int .i64 m.b, .int .i64 m.c, .int .i64 m.d], .int .i64 0]) ∧ Hid (P m)) ∧ Below W.heap.size W w'))
    (HC : Hid (∀ W, Below w.heap.size w W → W.cell? ⟨pb, 5, none⟩ = some (.int .i64 n) ∧ W.frozen? ⟨pb, 5, none⟩ = false))
    (HF : Hid (∀ W, Below w.heap.size w W → n = 4096 → R 6 W)) (HO : Hid (∀ m W, P m → Below w.heap.size w W → n < 4096 → ¬ v.le m → R 7 W))
    (HK : Hid (∀ m W, P m → Below w.heap.size w W → n < 4096 → v.le m → Calls Tryz.prog 63 #[.pointer (some ⟨pb, 0, none⟩), .int .i64 a, .int .i64 b, .agg #[.int .i64 v.a, .int .i64 v.b, .int .i64 v.c, .int .i64 v.d]] (W.setCell ⟨pb, 5, none⟩ (.int .i64 ((n : Int) + 1))) fun e w' => e = .returned (.tuple #[]) ∧ Hid (R 0 w'))) :
    Calls Tryz.prog 43 #[.pointer (some ⟨pb, 0, none⟩), .int .i64 a, .int .i64 b, .agg #[.int .i64 v.a, .int .i64 v.b, .int .i64 v.c, .int .i64 v.d]] w fun e w' => ∃ c : Int, e = .returned (.int .i64 c) ∧ R c w' := by
  have H : Hid (∀ w, Calls Tryz.prog 61 #[.agg #[.int .i64 v.a, .int .i64 v.b, .int .i64 v.c, .int .i64 v.d]] w fun e w' => e = .returned (.bool true) ∧ Below w.heap.size w w') := fun w => by have := formed_V v w; rwa [hv] at this
  clear hv
  go_enter Tryz.func43, Tryz.ntmps43
  go_wp2_with (go_at_call 61; refine (H.out _).mono ?_)
  first | rintro e w1 rfl b1 | rintro e w1 ⟨rfl, b1⟩
  have z1 := at_below b1 (by simp) new0
  have y1 : Hid (Below w.heap.size w w1) := Below.trans (by go_grown) (b1.mono (by simp))
  clear H b1
  go_wp2_with (go_at_call 62; refine (H19.out _ y1.out).mono ?_)
  rintro e w2 ⟨⟨m, rfl, hP⟩, b2⟩
  have z2 := at_below b2 (Nat.le_refl _) z1
  have y2 : Hid (Below w.heap.size w w2) := y1.out.trans (b2.mono y1.out.size)
  clear b2 H19 y1 z1
  obtain ⟨O, hO⟩ : ∃ O : Obj, O = .cells #[.int .i64 m.a, .int .i64 m.b, .int .i64 m.c, .int .i64 m.d] 40 (0, 0) := ⟨_, rfl⟩
  have z3 : Bx (w2.alloc O) w.heap.size v := at_alloc z2
  have z4 : Bx (w2.alloc O) w2.heap.size m := by rw [hO]; exact new0
  have y3 : Hid (Below w.heap.size w (w2.alloc O)) := y2.out.alloc y2.out.size _
  obtain ⟨c5, f5⟩ := HC.out _ y2.out
  have e5 : pb < w2.heap.size := by have := y2.out.size; omega
  obtain ⟨q5, qf5⟩ := HC.out _ y3.out
  by_cases hfull : n = 4096
  · subst hfull
    go_wp2_with fail
    go_ret
    exact ⟨6, rfl, by rw [← hO]; exact HF.out _ y3.out (by simp)⟩
  · have hn' : decide ((4096 : Int) ≤ (n : Int)) = false := decide_eq_false (by omega)
    have hlt : Hid (n < 4096) := by show n < 4096; omega
    obtain ⟨x0, x1, x2, x3, xf0, xf1, xf2, xf3, xs, xn⟩ := cells4 z2
    obtain ⟨bt, hbt⟩ : ∃ bt, bt = decide (v.le m) := ⟨_, rfl⟩
    have HT : Hid (bt = decide (v.le m)) := hbt
    have H27 : Hid (Calls Tryz.prog 52 #[.agg #[.int .i64 v.a, .int .i64 v.b, .int .i64 v.c, .int .i64 v.d], .agg #[.int .i64 m.a, .int .i64 m.b, .int .i64 m.c, .int .i64 m.d]] (w2.alloc (.cells #[.int .i64 m.a, .int .i64 m.b, .int .i64 m.c, .int .i64 m.d] 40)) fun e w3 => e = .returned (.bool bt) ∧ Hid (Below w.heap.size w w3 ∧ Bx w3 w.heap.size v)) := by
      refine (fits_V v m _).mono ?_
      rintro e w3 ⟨rfl, b3⟩
      have y3' := y3.out
      rw [hO] at y3' z3
      exact ⟨by rw [hbt], y3'.trans (b3.mono y3'.size), at_below b3 (Nat.le_refl _) z3⟩
    clear hbt
    go_wp2_with (go_at_call 52; refine H27.out.mono ?_)
    first | rintro e w3 rfl h3 | rintro e w3 ⟨rfl, h3⟩
    clear H27 x0 x1 x2 x3 xf0 xf1 xf2 xf3 xs xn q5 qf5 c5 f5 e5 z2 z3 z4 y2 y3 HF hO
    obtain ⟨x0, x1, x2, x3, xf0, xf1, xf2, xf3, xs, xn⟩ := cells4 h3.out.2
    obtain ⟨c5, f5⟩ := HC.out _ h3.out.1
    cases bt
    · have hC : Hid (¬ v.le m) := of_decide_eq_false HT.out.symm
      go_wp2_with fail
      go_ret
      exact ⟨7, rfl, HO.out m _ hP.out h3.out.1 hlt.out hC.out⟩
    · have hC0 : v.le m := of_decide_eq_true HT.out.symm
      have hw : IntKind.i64.wrap ((n : Int) + 1) = (n : Int) + 1 := by rw [IntKind.wrap_i64]; omega
      have hne : ¬ w.heap.size = pb := by omega
      have H28 : Hid (Calls Tryz.prog 63 #[.pointer (some ⟨pb, 0, none⟩), .int .i64 a, .int .i64 b, .agg #[.int .i64 v.a, .int .i64 v.b, .int .i64 v.c, .int .i64 v.d]] (w3.setCell ⟨pb, 5, none⟩ (.int .i64 ((n : Int) + 1))) fun e w' => e = .returned (.tuple #[]) ∧ Hid (R 0 w')) := HK.out m _ hP.out h3.out.1 hlt.out hC0
      clear hC0 HK HO
      go_wp2_with (go_at_call 63; refine H28.out.mono ?_)
      first | rintro e w4 rfl h4 | rintro e w4 ⟨rfl, h4⟩
      go_wp2_with fail
      go_ret
      exact ⟨0, rfl, h4.out⟩
/-- v is free over the span -/
def Fits (f : Int → V) (a b : Int) (v : V) : Prop := ∀ u, a ≤ u → u < b → v.le (f u)
noncomputable instance (f : Int → V) (a b : Int) (v : V) : Decidable (Fits f a b v) := Classical.propDecidable _
/-- what Take answers -/
noncomputable def tkC (f : Int → V) (n : Nat) (a b : Int) (v : V) : Int :=
  if v.ok = false then 4 else if spn a b = false then 2 else if n = 4096 then 6 else if ¬ Fits f a b v then 7 else 0
theorem tkC_zero {f : Int → V} {n : Nat} {a b : Int} {v : V} (h : tkC f n a b v = 0) : v.ok = true ∧ spn a b = true ∧ n ≠ 4096 ∧ Fits f a b v := by
  unfold tkC at h
  split at h
  · omega
  · rename_i h1
    split at h
    · omega
    · rename_i h2
      split at h
      · omega
      · rename_i h3
        split at h
        · omega
        · rename_i h4
          exact ⟨by simpa using h1, by simpa using h2, h3, Classical.not_not.1 h4⟩
theorem spn_iff {a b : Int} : spn a b = true ↔ 0 ≤ a ∧ a < b ∧ b ≤ 1099511627776 := by unfold spn; simp
/-- a profile's state is whole -/
structure Ok (S : PS) : Prop where
  p : Pf S.C S.l
  n : S.n ≤ 4096
  l : S.l.length ≤ 2 * S.n
/-- what a Take leaves -/
structure Tk (w w' : World) (pb : Nat) (S S' : PS) (a b : Int) (v : V) : Prop where
  m : Mem w' pb S'
  o : Ok S'
  c : S'.C = S.C
  g : Chg pb S S' w w'
  f : tkC (fa S.C S.l) S.n a b v = 0 → S'.n = S.n + 1 ∧ ∀ u, fa S'.C S'.l u = tkF (fa S.C S.l) a b v u
  k : tkC (fa S.C S.l) S.n a b v ≠ 0 → S' = S
theorem Tk.same {w w' : World} {pb : Nat} {S : PS} {a b : Int} {v : V} (h : Mem w pb S) (hO : Ok S) (b' : Below w.heap.size w w') (hc : tkC (fa S.C S.l) S.n a b v ≠ 0) : Tk w w' pb S S a b v :=
  ⟨h.below b', hO, rfl, Chg.of_below b', fun q => absurd q hc, fun _ => rfl⟩
theorem Mem.count {w : World} {pb : Nat} {S : PS} (h : Mem w pb S) (n : Nat) : Mem (w.setCell ⟨pb, 5, none⟩ (.int .i64 n)) pb { S with n := n } :=
  ⟨setB (i := 5) h.hp _, h.rw.keep fun g hg => Below.heap_setCell _ _ _ _ (fun e => h.ne (by rw [hg]; exact congrArg some e))⟩
theorem take_any {w : World} {pb : Nat} {S : PS} (h : Mem w pb S) (hO : Ok S) (a b : Int) (v : V) :
    Calls Tryz.prog 43 #[.pointer (some ⟨pb, 0, none⟩), .int .i64 a, .int .i64 b, .agg #[.int .i64 v.a, .int .i64 v.b, .int .i64 v.c, .int .i64 v.d]] w fun e w' => e = .returned (.int .i64 (tkC (fa S.C S.l) S.n a b v)) ∧ ∃ S', Tk w w' pb S S' a b v := by
  have hn := hO.n
  have hl := hO.l
  by_cases hv : v.ok = false
  · have hc : tkC (fa S.C S.l) S.n a b v = 4 := by unfold tkC; rw [if_pos hv]
    refine (take_bad w pb a b v hv).mono ?_
    rintro e w' ⟨rfl, b1⟩
    exact ⟨by rw [hc], S, Tk.same h hO b1 (by rw [hc]; decide)⟩
  · have hv' : v.ok = true := by simpa using hv
    by_cases hs : spn a b = false
    · have hc : tkC (fa S.C S.l) S.n a b v = 2 := by unfold tkC; rw [if_neg hv, if_pos hs]
      refine (take_range w pb a b v hv' hs).mono ?_
      rintro e w' ⟨rfl, b1⟩
      exact ⟨by rw [hc], S, Tk.same h hO b1 (by rw [hc]; decide)⟩
    · have hs' : spn a b = true := by simpa using hs
      obtain ⟨ha, hab, hb⟩ := spn_iff.1 hs'
      have hc : tkC (fa S.C S.l) S.n a b v = if S.n = 4096 then 6 else if ¬ Fits (fa S.C S.l) a b v then 7 else 0 := by unfold tkC; rw [if_neg hv, if_neg hs]
      refine (take_go w pb a b v S.n hn hv' (Lst (fa S.C S.l) a b) (fun c w' => c = tkC (fa S.C S.l) S.n a b v ∧ ∃ S', Tk w w' pb S S' a b v) (h.lt pb (.inl rfl)) ?_ ?_ ?_ ?_ ?_).mono ?_
      · intro W bW
        exact least_good (h.below bW) hO.p.srt (by omega) a b hs'
      · intro W bW
        have := h.below bW
        exact ⟨this.cells.2.2.2.2.2, fz this.hp _⟩
      · intro W bW e
        rw [if_pos e] at hc
        exact ⟨hc.symm, S, Tk.same h hO bW (by rw [hc]; decide)⟩
      · intro m W hm bW hlt hvm
        have hnF : ¬ Fits (fa S.C S.l) a b v := fun q => hvm (hm.le_iff.2 q)
        rw [if_neg (by omega), if_pos hnF] at hc
        exact ⟨hc.symm, S, Tk.same h hO bW (by rw [hc]; decide)⟩
      · intro m W hm bW hlt hvm
        have hF : Fits (fa S.C S.l) a b v := hm.le_iff.1 hvm
        rw [if_neg (by omega), if_neg (fun q => q hF)] at hc
        have hM := (h.below bW).count (S.n + 1)
        have hcast : ((S.n + 1 : Nat) : Int) = (S.n : Int) + 1 := by omega
        rw [hcast] at hM
        refine (lower_any hM hO.p (show S.l.length ≤ 50000 by omega) a b v hab hv' hF).mono ?_
        rintro e w' ⟨rfl, S', q⟩
        have e1 : S'.C = S.C := q.c
        have e2 : S'.n = S.n + 1 := q.n
        have t : Tkn S.C S.l a b v S'.l := q.t
        have tl := t.len
        refine ⟨rfl, hc.symm, S', q.m, ⟨?_, by omega, by omega⟩, e1, ?_, fun _ => ⟨e2, fun u => ?_⟩, fun hne => absurd hc hne⟩
        · rw [e1]; exact hO.p.take ha hab hb hv' hF t
        · refine ⟨?_, ?_⟩
          · have k1 : Kp (Fp pb S) w W := Kp.of_below bW
            have k2 : Kp (Fp pb S) W (W.setCell ⟨pb, 5, none⟩ (.int .i64 ((S.n : Int) + 1))) := Kp.of_set _ _ _ (.inl rfl)
            exact (k1.trans k2 fun _ _ q => q).trans q.g.kp fun _ _ q => q
          · intro k hk
            rcases q.g.fp k hk with q | q
            · exact .inl q
            · refine .inr (Nat.le_trans bW.size (Nat.le_trans ?_ q))
              simp [World.setCell]
        · rw [e1]; exact t.fa u
      · rintro e w' ⟨c, rfl, hc, S', q⟩
        exact ⟨by rw [hc], S', q⟩
end Go.Proofs.YtjgibngnjlciaaaGreat

namespace Go.Proofs.YtjgibngnjlciaaaGreat
open Go.RowKit Go.Maps

/-- a profile of the law's own making; X: blocks that are none of it, and what they hold -/
structure Lw (w0 w : World) (pb : Nat) (X : Nat → Option Obj) (S : PS) : Prop where
  m : Mem w pb S
  o : Ok S
  b : Below w0.heap.size w0 w
  f : ∀ j, Fp pb S j → w0.heap.size ≤ j
  x : ∀ j o, X j = some o → w.heap[j]? = some o ∧ ¬ Fp pb S j
/-- a profile with a capacity, what is free, a number of takes -/
def LL (w0 w : World) (pb : Nat) (X : Nat → Option Obj) (C : V) (f : Int → V) (n : Nat) : Prop := ∃ S, Lw w0 w pb X S ∧ S.C = C ∧ (∀ u, fa S.C S.l u = f u) ∧ S.n = n
def NX : Nat → Option Obj := fun _ => none
def adX (X : Nat → Option Obj) (j : Nat) (o : Obj) : Nat → Option Obj := fun i => if i = j then some o else X i
theorem adX_self (X : Nat → Option Obj) (j : Nat) (o : Obj) : adX X j o j = some o := by unfold adX; rw [if_pos rfl]
section
variable {w0 w w' w1 : World} {pb : Nat} {S S' : PS} {X : Nat → Option Obj} {C : V} {f : Int → V} {n : Nat}
theorem Lw.step (h : Lw w0 w pb X S) (hm : Mem w' pb S') (ho : Ok S') (g : Chg pb S S' w w') : Lw w0 w' pb X S' := by
  have hs := h.b.size
  refine ⟨hm, ho, ⟨g.kp.os.trans h.b.os, g.kp.tape.trans h.b.tape, g.kp.output.trans h.b.output, Nat.le_trans h.b.size g.kp.size, fun j hj => (g.kp.block j (by omega) fun q => by have := h.f j q; omega).trans (h.b.block j hj)⟩, fun j q => ?_, fun j o q => ?_⟩
  · rcases g.fp j q with q | q
    · exact h.f j q
    · omega
  · obtain ⟨h1, h2⟩ := h.x j o q
    have hj := (Array.getElem?_eq_some_iff.1 h1).1
    refine ⟨(g.kp.block j hj h2).trans h1, fun q => ?_⟩
    rcases g.fp j q with q | q
    · exact h2 q
    · omega
theorem Lw.below (h : Lw w0 w pb X S) (b : Below w.heap.size w w') : Lw w0 w' pb X S :=
  ⟨h.m.below b, h.o, h.b.trans (b.mono h.b.size), h.f, fun j o q => by
    obtain ⟨h1, h2⟩ := h.x j o q
    exact ⟨(b.block j (Array.getElem?_eq_some_iff.1 h1).1).trans h1, h2⟩⟩
theorem LL.below (h : LL w0 w pb X C f n) (b : Below w.heap.size w w') : LL w0 w' pb X C f n := by
  obtain ⟨S, h, r⟩ := h
  exact ⟨S, h.below b, r⟩
theorem LL.bel (h : LL w0 w pb X C f n) : Below w0.heap.size w0 w := by
  obtain ⟨S, h, _⟩ := h
  exact h.b
theorem LL.lt (h : LL w0 w pb X C f n) : pb < w.heap.size := by
  obtain ⟨S, h, _⟩ := h
  exact h.m.lt pb (.inl rfl)
theorem LL.alloc (h : LL w0 w pb X C f n) (o : Obj) : LL w0 (w.alloc o) pb (adX X w.heap.size o) C f n := by
  obtain ⟨S, h, r⟩ := h
  have h1 := h.below ((Below.refl _ w).alloc (Nat.le_refl _) o)
  refine ⟨S, ⟨h1.m, h1.o, h1.b, h1.f, fun j o' q => ?_⟩, r⟩
  unfold adX at q
  split at q
  · rename_i e
    subst e
    cases q
    exact ⟨new0, fun q => Nat.lt_irrefl _ (h.m.lt _ q)⟩
  · exact h1.x j o' q
theorem LL.box (h : LL w0 w pb X C f n) {j : Nat} {o : Obj} (hj : X j = some o) : w.heap[j]? = some o := by
  obtain ⟨S, h, _⟩ := h
  exact (h.x j o hj).1
theorem LL.forget (h : LL w0 w pb X C f n) {Y : Nat → Option Obj} (hY : ∀ j o, Y j = some o → X j = some o) : LL w0 w pb Y C f n := by
  obtain ⟨S, h, r⟩ := h
  exact ⟨S, ⟨h.m, h.o, h.b, h.f, fun j o q => h.x j o (hY j o q)⟩, r⟩
theorem LL.fo (h : LL w0 w pb X C f n) (u : Int) : (f u).ok = true ∧ (f u).le C := by
  obtain ⟨S, h, e1, e2, e3⟩ := h
  have := h.o.p.fo u
  rwa [e2, e1] at this
theorem LL.ck (h : LL w0 w pb X C f n) : C.ok = true := by
  obtain ⟨S, h, e1, e2, e3⟩ := h
  rw [← e1]
  exact h.o.p.ck
theorem LL.n4 (h : LL w0 w pb X C f n) : n ≤ 4096 := by
  obtain ⟨S, h, e1, e2, e3⟩ := h
  rw [← e3]
  exact h.o.n
theorem l_new (w0 w : World) (b : Below w0.heap.size w0 w) (v : V) (hv : v.ok = true) (X : Nat → Option Obj) (hX : ∀ j o, X j = some o → w.heap[j]? = some o) : Calls Tryz.prog 42 #[.agg #[.int .i64 v.a, .int .i64 v.b, .int .i64 v.c, .int .i64 v.d]] w fun e w' => ∃ pb, e = .returned (.tuple #[.pointer (some ⟨pb, 0, none⟩), .int .i64 0]) ∧ LL w0 w' pb X v (fun _ => v) 0 := by
  refine (new_raw w v hv).mono ?_
  rintro e w' ⟨w1, rfl, b1, rfl⟩
  have hb := b.trans (b1.mono b.size)
  have hm := mem_new (w := w1) (v := v)
  refine ⟨_, rfl, _, ⟨hm, ⟨Pf.nil hv, Nat.zero_le _, Nat.zero_le _⟩, hb.alloc hb.size _, fun j q => ?_, fun j o q => ?_⟩, rfl, fun _ => rfl, rfl⟩
  · rcases q with rfl | q
    · exact hb.size
    · cases q
  · have h1 := hX j o q
    have h2 := at_below b1 (Nat.le_refl _) h1
    refine ⟨at_alloc h2, fun q => ?_⟩
    rcases q with rfl | q
    · exact Nat.lt_irrefl _ (Array.getElem?_eq_some_iff.1 h2).1
    · cases q
/-- what is free behind a Take, and how many takes there are -/
noncomputable def stF (f : Int → V) (n : Nat) (a b : Int) (v : V) : Int → V := if tkC f n a b v = 0 then tkF f a b v else f
noncomputable def stN (f : Int → V) (n : Nat) (a b : Int) (v : V) : Nat := if tkC f n a b v = 0 then n + 1 else n
theorem l_take (h : LL w0 w pb X C f n) (a b : Int) (v : V) : Calls Tryz.prog 43 #[.pointer (some ⟨pb, 0, none⟩), .int .i64 a, .int .i64 b, .agg #[.int .i64 v.a, .int .i64 v.b, .int .i64 v.c, .int .i64 v.d]] w fun e w' => e = .returned (.int .i64 (tkC f n a b v)) ∧ LL w0 w' pb X C (stF f n a b v) (stN f n a b v) := by
  obtain ⟨S, h, rfl, e2, rfl⟩ := h
  have ef : fa S.C S.l = f := funext e2
  refine (take_any h.m h.o a b v).mono ?_
  rintro e w' ⟨rfl, S', q⟩
  rw [ef]
  refine ⟨rfl, S', h.step q.m q.o q.g, q.c, ?_, ?_⟩
  · intro u
    unfold stF
    split
    · rename_i hz
      rw [← ef] at hz
      rw [(q.f hz).2 u, ef]
    · rename_i hz
      rw [← ef] at hz
      rw [q.k hz, ef]
  · unfold stN
    split
    · rename_i hz
      rw [← ef] at hz
      exact (q.f hz).1
    · rename_i hz
      rw [← ef] at hz
      rw [q.k hz]
theorem l_free (h : LL w0 w pb X C f n) (t : Int) : Calls Tryz.prog 47 #[.pointer (some ⟨pb, 0, none⟩), .int .i64 t] w fun e w' => e = .returned (.agg #[.int .i64 (f t).a, .int .i64 (f t).b, .int .i64 (f t).c, .int .i64 (f t).d]) ∧ Below w.heap.size w w' := by
  obtain ⟨S, h, rfl, e2, rfl⟩ := h
  have h1 := h.o.n
  have h2 := h.o.l
  have := Free_any h.m h.o.p.srt (by omega) t
  rwa [e2] at this
theorem l_least (h : LL w0 w pb X C f n) (a b : Int) (hs : spn a b = true) : Calls Tryz.prog 62 #[.pointer (some ⟨pb, 0, none⟩), .int .i64 a, .int .i64 b] w fun e w' => (∃ m : V, e = .returned (.tuple #[.agg #[.int .i64 m.a, .int .i64 m.b, .int .i64 m.c, .int .i64 m.d], .int .i64 0]) ∧ Lst f a b m) ∧ Below w.heap.size w w' := by
  obtain ⟨S, h, rfl, e2, rfl⟩ := h
  have h1 := h.o.n
  have h2 := h.o.l
  have := least_good h.m h.o.p.srt (by omega) a b hs
  rwa [funext e2] at this
/-- a row of steps that was told -/
structure PSR (w : World) (v : Value) (C : V) (f : Int → V) (L : List Stp) : Prop where
  r : Row w v L
  p : Pf C L
  f : ∀ u, fa C L u = f u
  l : L.length ≤ 8192
theorem l_steps (h : LL w0 w pb X C f n) : Calls Tryz.prog 44 #[.pointer (some ⟨pb, 0, none⟩)] w fun e w' => ∃ v L, e = .returned v ∧ PSR w' v C f L ∧ Below w.heap.size w w' ∧ (∀ j, v.ownBlock = some j → w.heap.size ≤ j) := by
  obtain ⟨S, h, rfl, e2, rfl⟩ := h
  have h1 := h.o.n
  have h2 := h.o.l
  refine (steps_any h.m (by omega)).mono ?_
  rintro e w' ⟨v, rfl, k1, k2, k3⟩
  exact ⟨v, S.l, rfl, ⟨k1, h.o.p, e2, by omega⟩, k2, k3⟩
end
end Go.Proofs.YtjgibngnjlciaaaGreat

namespace Go.Proofs.YtjgibngnjlciaaaGreat

/-- a take -/
structure Opr where
  a : Int
  b : Int
  v : V
/-- what is free behind takes, one by one -/
def plF : (Int → V) → List Opr → Int → V
  | f, [] => f
  | f, o :: r => plF (tkF f o.a o.b o.v) r
/-- all of them are taken -/
def AllT : (Int → V) → List Opr → Prop
  | _, [] => True
  | f, o :: r => o.v.ok = true ∧ spn o.a o.b = true ∧ Fits f o.a o.b o.v ∧ AllT (tkF f o.a o.b o.v) r
/-- what a list of takes takes at a tick -/
def sumT : List Opr → Int → V
  | [], _ => V.nil
  | o :: r, u => if o.a ≤ u ∧ u < o.b then o.v.add (sumT r u) else sumT r u
theorem sumT_cons (o : Opr) (r : List Opr) (u : Int) : sumT (o :: r) u = if o.a ≤ u ∧ u < o.b then o.v.add (sumT r u) else sumT r u := rfl
theorem plF_sum : ∀ (L : List Opr) (f : Int → V) (u : Int), plF f L u = (f u).sub (sumT L u)
  | [], f, u => by unfold plF sumT V.sub V.nil; simp
  | o :: r, f, u => by
    unfold plF sumT
    rw [plF_sum r, tkF]
    split
    · unfold V.sub V.add; simp only [V.mk.injEq]; omega
    · rfl
theorem sumT_append : ∀ (L M : List Opr) (u : Int), sumT (L ++ M) u = (sumT L u).add (sumT M u)
  | [], M, u => by simp [sumT, V.add, V.nil]
  | o :: r, M, u => by
    rw [List.cons_append, sumT_cons, sumT_cons, sumT_append r M u]
    split
    · unfold V.add; simp only [V.mk.injEq]; omega
    · rfl
theorem sumT_rev : ∀ (L : List Opr) (u : Int), sumT L.reverse u = sumT L u
  | [], u => rfl
  | o :: r, u => by
    rw [List.reverse_cons, sumT_append, sumT_rev r, sumT_cons, sumT_cons]
    have e : sumT [] u = V.nil := rfl
    rw [e]
    split
    · unfold V.add V.nil; simp only [V.mk.injEq]; omega
    · unfold V.add V.nil; simp
theorem AllT.ok : ∀ {L : List Opr} {f : Int → V}, AllT f L → ∀ o ∈ L, o.v.ok = true ∧ spn o.a o.b = true
  | [], f, h, o, ho => by cases ho
  | x :: r, f, h, o, ho => by
    obtain ⟨h1, h2, h3, h4⟩ := h
    rcases List.mem_cons.1 ho with rfl | ho
    · exact ⟨h1, h2⟩
    · exact h4.ok o ho
theorem sumT_nonneg {L : List Opr} (h : ∀ o ∈ L, o.v.ok = true) (u : Int) : V.nil.le (sumT L u) := by
  induction L with
  | nil => exact V.le_refl _
  | cons o r ih =>
    have h1 := ih fun o ho => h o (List.mem_cons_of_mem _ ho)
    have h2 := V.ok_iff.1 (h o (by simp))
    rw [sumT_cons]
    split
    · unfold V.le V.add V.nil at *; simp only at *; omega
    · exact h1
/-- what is free behind all of them is nowhere below 0 -/
theorem AllT.pos : ∀ {L : List Opr} {f : Int → V}, AllT f L → (∀ u, V.nil.le (f u)) → ∀ u, V.nil.le (plF f L u)
  | [], f, _, hf, u => hf u
  | o :: r, f, h, hf, u => by
    obtain ⟨h1, h2, h3, h4⟩ := h
    unfold plF
    refine h4.pos (fun x => ?_) u
    unfold tkF
    split
    · rename_i q
      have := h3 x q.1 q.2
      unfold V.le V.sub V.nil at *
      simp only at *
      omega
    · exact hf x
/-- a part of the takes, behind which nothing is below 0 with the rest: all fit -/
theorem AllT.of_pos : ∀ {L : List Opr} {f : Int → V}, (∀ o ∈ L, o.v.ok = true ∧ spn o.a o.b = true) → (∀ u, V.nil.le (plF f L u)) → AllT f L
  | [], f, _, _ => trivial
  | o :: r, f, h, hp => by
    have h1 := h o (by simp)
    refine ⟨h1.1, h1.2, fun u hu1 hu2 => ?_, AllT.of_pos (fun x hx => h x (List.mem_cons_of_mem _ hx)) hp⟩
    have := hp u
    rw [plF_sum] at this
    have hs := sumT_nonneg (fun x hx => (h x (List.mem_cons_of_mem _ hx)).1) u (L := r)
    rw [sumT_cons, if_pos ⟨hu1, hu2⟩] at this
    unfold V.le V.sub V.add V.nil at *
    simp only at *
    omega
theorem AllT.rev {L : List Opr} {f : Int → V} (h : AllT f L) (hf : ∀ u, V.nil.le (f u)) : AllT f L.reverse := by
  refine AllT.of_pos (fun o ho => h.ok o (List.mem_reverse.1 ho)) fun u => ?_
  rw [plF_sum, sumT_rev, ← plF_sum]
  exact h.pos hf u
theorem plF_rev (L : List Opr) (f : Int → V) (u : Int) : plF f L.reverse u = plF f L u := by rw [plF_sum, sumT_rev, ← plF_sum]
theorem plF_snoc : ∀ (L : List Opr) (o : Opr) (f : Int → V), plF f (L ++ [o]) = tkF (plF f L) o.a o.b o.v
  | [], _, _ => rfl
  | _ :: r, o, _ => plF_snoc r o _
theorem AllT.append : ∀ {L M : List Opr} {f : Int → V}, AllT f (L ++ M) ↔ AllT f L ∧ AllT (plF f L) M
  | [], M, f => by simp [AllT, plF]
  | o :: r, M, f => by
    show (_ ∧ _ ∧ _ ∧ AllT _ (r ++ M)) ↔ (_ ∧ _ ∧ _ ∧ AllT _ r) ∧ AllT (plF (tkF f o.a o.b o.v) r) M
    rw [AllT.append]
    constructor
    · rintro ⟨h1, h2, h3, h4, h5⟩; exact ⟨⟨h1, h2, h3, h4⟩, h5⟩
    · rintro ⟨⟨h1, h2, h3, h4⟩, h5⟩; exact ⟨h1, h2, h3, h4, h5⟩
theorem AllT.snoc {L : List Opr} {o : Opr} {f : Int → V} : AllT f (L ++ [o]) ↔ AllT f L ∧ o.v.ok = true ∧ spn o.a o.b = true ∧ Fits (plF f L) o.a o.b o.v := by
  rw [AllT.append]
  show _ ∧ (_ ∧ _ ∧ _ ∧ True) ↔ _
  simp only [and_true]
end Go.Proofs.YtjgibngnjlciaaaGreat
