/-
  lower, whole.
-/
import Derived.Test.YtkfpbpkadkhhnaaPi
namespace Go.Proofs.Ytkfpbpkadkhhnaa
open Go.RowKit Go.Maps

structure LQ1 (w0 W : World) (pb bx : Nat) (S : PS) (a : Int) (v : V) (p : Nat) : Prop where
  s : ∃ S1, SplR w0 W pb S S1 a p
  b : Bx W bx v
structure LR (w0 W : World) (pb bx : Nat) (S S1 S2 : PS) (a b : Int) (v : V) (p q i : Nat) : Prop where
  s1 : Spl S.C S.l a S1.l p
  s2 : Spl S.C S1.l b S2.l q
  c : S2.C = S.C
  n : S2.n = S.n
  m : Mem W pb (S2.wl S2.lv (lowS S2.l p i v))
  b : Bx W bx v
  g : Chg pb S (S2.wl S2.lv (lowS S2.l p i v)) w0 W
  hi : p ≤ i
  hq : i ≤ q
structure LJ (w0 W : World) (pb : Nat) (S S1 S2 S3 : PS) (a b : Int) (v : V) (p q : Nat) : Prop where
  s1 : Spl S.C S.l a S1.l p
  s2 : Spl S.C S1.l b S2.l q
  c : S3.C = S.C
  n : S3.n = S.n
  l : S3.l = jnS S.C (lowS S2.l p q v) q
  m : Mem W pb S3
  g : Chg pb S S3 w0 W
/-- what a take leaves -/
structure TkR (w w' : World) (pb : Nat) (S S' : PS) (a b : Int) (v : V) : Prop where
  m : Mem w' pb S'
  c : S'.C = S.C
  n : S'.n = S.n
  t : Tkn S.C S.l a b v S'.l
  g : Chg pb S S' w w'
theorem Row.set4_kp (w : World) (g o1 o2 o3 o4 : Nat) (x1 x2 x3 x4 : Value) : Kp (fun k => k = g) w ((((w.setCell ⟨g, o1, none⟩ x1).setCell ⟨g, o2, none⟩ x2).setCell ⟨g, o3, none⟩ x3).setCell ⟨g, o4, none⟩ x4) :=
  (((Kp.of_set (S := fun k => k = g) w ⟨g, o1, none⟩ x1 rfl).trans (Kp.of_set (S := fun k => k = g) _ ⟨g, o2, none⟩ x2 rfl) fun _ _ q => q).trans (Kp.of_set (S := fun k => k = g) _ ⟨g, o3, none⟩ x3 rfl) fun _ _ q => q).trans (Kp.of_set (S := fun k => k = g) _ ⟨g, o4, none⟩ x4 rfl) fun _ _ q => q
theorem lower_any {w : World} {pb : Nat} {S : PS} (h : Mem w pb S) (hP : Pf S.C S.l) (hn : S.l.length ≤ 50000) (a b : Int) (v : V) (hab : a < b) (hv : v.ok = true) (hf : ∀ u, a ≤ u → u < b → v.le (fa S.C S.l u)) :
    Calls Try.prog 28 #[.pointer (some ⟨pb, 0, none⟩), .int .i64 a, .int .i64 b, .agg #[.int .i64 v.a, .int .i64 v.b, .int .i64 v.c, .int .i64 v.d]] w fun e w' => e = .returned (.tuple #[]) ∧ ∃ S', TkR w w' pb S S' a b v := by
  obtain ⟨W0, hW0⟩ : ∃ W0, W0 = w.alloc (.cells #[.int .i64 v.a, .int .i64 v.b, .int .i64 v.c, .int .i64 v.d] 23) := ⟨_, rfl⟩
  have hB0 : Below w.heap.size w W0 := by rw [hW0]; exact (Below.refl _ w).alloc (Nat.le_refl _) _
  have h0 := h.below hB0
  have hbx0 : Bx W0 w.heap.size v := by rw [hW0]; exact new0
  have hnb := h0.bx hbx0
  refine low_raw w pb a b v w.heap.size (fun p W => LQ1 W0 W pb w.heap.size S a v p) (fun p q i W => ∃ S1 S2, LR W0 W pb w.heap.size S S1 S2 a b v p q i) (fun p W => ∃ S1 S2 S3 q, LJ W0 W pb S S1 S2 S3 a b v p q) (fun W => ∃ S', TkR w W pb S S' a b v) rfl ?_ ?_ ?_ ?_ ?_
  · rw [← hW0]
    refine (split_any h0 hP.srt (by omega) a).mono ?_
    rintro e w' ⟨p, S1, rfl, q⟩
    exact ⟨p, rfl, ⟨S1, q⟩, hbx0.off q.g.kp hnb⟩
  · intro p W hq
    obtain ⟨⟨S1, q1⟩, hb1⟩ := hq
    have l1 := q1.s.len
    refine (split_any q1.m q1.s.srt (by omega) b).mono ?_
    rintro e w' ⟨q, S2, rfl, q2⟩
    have s2 : Spl S.C S1.l b S2.l q := by have := q2.s; rwa [q1.c] at this
    have l2 := s2.len
    obtain ⟨hpq, s, r, e1, e2, e3, e4⟩ := spl_lt q1.s s2 hab
    have hql := (List.getElem?_eq_some_iff.1 e3).1
    refine ⟨q, rfl, ⟨by omega, by omega⟩, S1, S2, q1.s, s2, q2.c.trans q1.c, q2.n.trans q1.n, ?_, hb1.off q2.g.kp (q1.m.bx hb1), ?_, Nat.le_refl _, by omega⟩
    · rw [lowS_self]; exact q2.m
    · rw [lowS_self]; exact q1.g.trans q2.g
  · intro p q i W hR hiq
    obtain ⟨S1, S2, hR⟩ := hR
    obtain ⟨hpq, x, r, e1, e2, e3, e4⟩ := spl_lt hR.s1 hR.s2 hab
    have hql := (List.getElem?_eq_some_iff.1 e3).1
    have hil : i < S2.l.length := by omega
    have hi' := List.getElem?_eq_getElem hil
    obtain ⟨s, hs⟩ : ∃ s, S2.l[i]? = some s := ⟨_, hi'⟩
    have hsl := lowS_at (i := p) (v := v) hs
    have hll : (lowS S2.l p i v).length = S2.l.length := lowS_length _ _ _ _
    have ha : a ≤ s.at' := by
      by_cases e : i = p
      · subst e; rw [e1] at hs; cases hs; omega
      · have := hR.s2.srt.lt (show p < i by have := hR.hi; omega) e1 hs; omega
    have hb : s.at' < b := by have := hR.s2.srt.lt hiq hs e3; omega
    have hfs : fa S.C S.l s.at' = s.fr := by rw [← hR.s1.fa, ← hR.s2.fa, fa_at hR.s2.srt hs]
    have hok : s.fr.ok = true := by rw [← hfs]; exact (hP.fo _).1
    have hle : v.le s.fr := by rw [← hfs]; exact hf _ ha hb
    obtain ⟨g, c, e0⟩ := hR.m.rw.row (show 0 < (lowS S2.l p i v).length by omega)
    have e0' : S2.lv = .slice (some ⟨g, 0, none⟩) S2.l.length c := by have : S2.lv = .slice (some ⟨g, 0, none⟩) (lowS S2.l p i v).length c := e0; rwa [hll] at this
    have cell : ∀ w', Below W.heap.size W w' → Mem w' pb (S2.wl S2.lv (lowS S2.l p i v)) ∧ w'.cell? ⟨pb, 4, none⟩ = some (.slice (some ⟨g, 0, none⟩) S2.l.length c) ∧ Row w' (.slice (some ⟨g, 0, none⟩) S2.l.length c) (lowS S2.l p i v) := fun w' b => by
      have h1 := hR.m.below b
      have hr : Row w' S2.lv (lowS S2.l p i v) := h1.rw
      have c4 : w'.cell? ⟨pb, 4, none⟩ = some S2.lv := h1.cells.2.2.2.2.1
      rw [e0'] at hr c4
      exact ⟨h1, c4, hr⟩
    obtain ⟨m1, m2, m3⟩ := cell W (Below.refl _ _)
    obtain ⟨r0, r1, r2, r3, r4⟩ := m3.cells hsl
    obtain ⟨q0, q1, q2, q3, -⟩ := cells4 hR.b
    refine ⟨g, S2.l.length, c, s.fr, ⟨hil, m2, r1, r2, r3, r4, q0, q1, q2, q3⟩, ?_⟩
    have hB : Below W.heap.size W W.drew := (Below.refl _ W).drew
    refine (sub_V s.fr v _ hok hv hle).mono ?_
    rintro e w' ⟨rfl, b1⟩
    obtain ⟨k1, k2, k3⟩ := cell w' (hB.trans b1)
    obtain ⟨t0, t1, t2, t3, t4⟩ := k3.cells hsl
    refine ⟨rfl, ⟨k2, t1, t2, t3, t4, k3.fz _, k3.fz _, k3.fz _, k3.fz _⟩, S1, S2, hR.s1, hR.s2, hR.c, hR.n, ?_, ?_, ?_, by have := hR.hi; omega, by omega⟩
    · have h4 := k3.set4 hsl (s.fr.sub v)
      rw [lowS_succ hR.hi hs] at h4
      have hg : g ≠ pb := fun e => k1.ne (by show S2.lv.ownBlock = _; rw [e0', e]; rfl)
      refine ⟨?_, ?_⟩
      · exact ((Row.set4_kp w' g _ _ _ _ _ _ _ _).block pb (k1.lt pb (.inl rfl)) (Ne.symm hg)).trans k1.hp
      · show Row _ S2.lv _
        rw [e0']; exact h4
    · have hbw : Bx w' w.heap.size v := at_below (hB.trans b1) (Nat.le_refl _) hR.b
      exact hbw.off (Row.set4_kp w' g _ _ _ _ _ _ _ _) fun e => k1.bx hbw (.inr (by show S2.lv.ownBlock = _; rw [e0', ← e]; rfl))
    · refine hR.g.trans ⟨?_, fun k hk => .inl hk⟩
      refine Kp.trans (b := w') (Kp.of_below (hB.trans b1)) (Row.set4_kp w' g _ _ _ _ _ _ _ _) fun k _ q => .inr ?_
      show S2.lv.ownBlock = _
      rw [e0', q]; rfl
  · intro p q W hR
    obtain ⟨S1, S2, hR⟩ := hR
    obtain ⟨hpq, x, r, e1, e2, e3, e4⟩ := spl_lt hR.s1 hR.s2 hab
    have hql := (List.getElem?_eq_some_iff.1 e3).1
    have hll : (lowS S2.l p q v).length = S2.l.length := lowS_length _ _ _ _
    have l1 := hR.s1.len
    have l2 := hR.s2.len
    refine (join_any hR.m (show (lowS S2.l p q v).length ≤ 60000 by omega) (show q < (lowS S2.l p q v).length by omega)).mono ?_
    rintro e w' ⟨rfl, S3, j⟩
    refine ⟨rfl, S1, S2, S3, q, hR.s1, hR.s2, j.c.trans hR.c, j.n.trans hR.n, ?_, j.m, hR.g.trans j.g⟩
    rw [j.l]
    show jnS S2.C _ _ = _
    rw [hR.c]; rfl
  · intro p W hJ
    obtain ⟨S1, S2, S3, q, hJ⟩ := hJ
    obtain ⟨hpq, x, r, e1, e2, e3, e4⟩ := spl_lt hJ.s1 hJ.s2 hab
    have j1 := jn_any (C := S.C) (srt_low (i := p) (j := q) (v := v) hJ.s2.srt) (lowS_at e3)
    have l1 := hJ.s1.len
    have l2 := hJ.s2.len
    have l3 := j1.len
    rw [lowS_length, ← hJ.l] at l3
    have hpl : p < S3.l.length := by
      have : S3.l[p]? = (lowS S2.l p q v)[p]? := by rw [hJ.l]; exact j1.lo p hpq
      rw [lowS_get, e1] at this
      exact (List.getElem?_eq_some_iff.1 this).1
    refine (join_any hJ.m (by omega) hpl).mono ?_
    rintro e w' ⟨rfl, S4, j⟩
    refine ⟨rfl, S4, j.m, j.c.trans hJ.c, j.n.trans hJ.n, ?_, (Chg.of_below hB0).trans (hJ.g.trans j.g)⟩
    have := tkn_any v hP.nod hJ.s1 hJ.s2 hab
    rw [j.l, hJ.c, hJ.l]
    exact this
end Go.Proofs.Ytkfpbpkadkhhnaa
