/-
  search, Earliest.
-/
import Derived.Test.YtkfpbpkadkhhnaaPc
namespace Go.Proofs.Ytkfpbpkadkhhnaa
open Go.RowKit Go.Maps

/-- a vector's box -/
def Bx (w : World) (g : Nat) (v : V) : Prop := w.heap[g]? = some (.cells #[.int .i64 v.a, .int .i64 v.b, .int .i64 v.c, .int .i64 v.d] 23 (0, 0))
theorem fits_V (v u : V) (w : World) : Calls Try.prog 27 #[.agg #[.int .i64 v.a, .int .i64 v.b, .int .i64 v.c, .int .i64 v.d], .agg #[.int .i64 u.a, .int .i64 u.b, .int .i64 u.c, .int .i64 u.d]] w fun r w' => r = .returned (.bool (decide (v.le u))) ∧ Below w.heap.size w w' := by
  have := fits_any v.a v.b v.c v.d u.a u.b u.c u.d w
  rwa [ft_le] at this
structure EQ (w wr : World) (S : PS) (a n : Int) (v : V) (bx p : Nat) (t : Int) : Prop where
  q : Erq S.C S.l a n v p t
  w : Below w.heap.size w wr
  b : Bx wr bx v
set_option maxHeartbeats 2000000 in
theorem search_at {w : World} {pb : Nat} {S : PS} (h : Mem w pb S) (hP : Pf S.C S.l) (hn : S.l.length ≤ 60000) (a n : Int) (v : V) (ha : 0 ≤ a) (ha' : a ≤ 1099511627776) (hn0 : 0 < n) (hv : v.le S.C) :
    Calls Try.prog 31 #[.pointer (some ⟨pb, 0, none⟩), .int .i64 a, .int .i64 n, .agg #[.int .i64 v.a, .int .i64 v.b, .int .i64 v.c, .int .i64 v.d]] w fun e w' => (∃ t : Int, e = .returned (.int .i64 t) ∧ Hid (Ear (fa S.C S.l) a n v t ∧ t ≤ 1099511627776)) ∧ Below w.heap.size w w' := by
  have H30 : Hid (∀ W, Below w.heap.size w W → Calls Try.prog 30 #[.pointer (some ⟨pb, 0, none⟩), .int .i64 a] W fun e w' => ∃ k : Nat, e = .returned (.int .i64 k) ∧ Hid (IsK S.l a k) ∧ Below W.heap.size W w') := fun W b => stretch_any (h.below b) hP.srt hn a
  have HM : Hid (Mem w pb S) := h
  have HP : Hid (Pf S.C S.l) := hP
  have HV : Hid (v.le S.C) := hv
  have HA : Hid (0 ≤ a ∧ a ≤ 1099511627776) := ⟨ha, ha'⟩
  have e1 : ¬ pb = w.heap.size := by have := h.lt pb (.inl rfl); omega
  clear h hP hv ha ha'
  go_enter Try.func31, Try.ntmps31
  go_wp2_with (go_at_call 30; refine (H30.out _ (by go_grown)).mono ?_)
  rintro e w1 ⟨k, rfl, hk, b1⟩
  have HQ : Hid (EQ w w1 S a n v w.heap.size k a) := ⟨erq_start hk.out, Below.trans (by go_grown) (b1.mono (by simp)), at_below b1 (Nat.le_refl _) new0⟩
  clear H30 b1 hk
  go_wp2_with fail
  go_loopw [9, 10] (fun t9 t10 wr => ∃ (p : Nat) (t : Int), t9 = .int .i64 t ∧ t10 = .int .i64 p ∧ Hid (EQ w wr S a n v w.heap.size p t)) (fun _ t10 _ => S.l.length - (intOf t10).toNat)
  case atStart => exact ⟨k, a, rfl, rfl, HQ.out⟩
  case round =>
    clear HQ
    obtain ⟨p, t, rfl, rfl, HQ⟩ := hrel
    have hpl := HQ.out.q.pl
    have hM := HM.out.below HQ.out.w
    have htop := HQ.out.q.top HA.out.2 (fun s hs => (HP.out.bd s hs).2)
    have hge := HQ.out.q.ge
    by_cases hp : p = S.l.length
    · obtain ⟨pp, c, elv⟩ := hM.rw.shape
      have c4 := hM.cells.2.2.2.2.1
      rw [elv] at c4
      have hpl' : ¬ (p : Int) < (S.l.length : Int) := by omega
      have HD : Hid (Ear (fa S.C S.l) a n v t ∧ t ≤ 1099511627776) := ⟨Erq.end HP.out.srt (hp ▸ HQ.out.q) HP.out.fin HV.out, htop⟩
      clear hM elv
      go_wp2_with fail
      go_ret
      exact ⟨⟨t, rfl, HD⟩, HQ.out.w⟩
    · have hlt : p < S.l.length := by omega
      have hlt' : (p : Int) < (S.l.length : Int) := by omega
      obtain ⟨g, c, elv⟩ := hM.rw.row (by omega)
      have c4 := hM.cells.2.2.2.2.1
      have hR := hM.rw
      rw [elv] at c4 hR
      obtain ⟨s, hs⟩ : ∃ s, S.l[p]? = some s := ⟨_, List.getElem?_eq_getElem hlt⟩
      obtain ⟨s0, -⟩ := hR.cells hs
      obtain ⟨u, hu⟩ : ∃ u, u = pv S.C S.l p := ⟨_, rfl⟩
      obtain ⟨bt, hbt⟩ : ∃ bt, bt = decide (v.le u) := ⟨_, rfl⟩
      have H29 : Hid (Calls Try.prog 29 #[.pointer (some ⟨pb, 0, none⟩), .int .i64 p] wr.drew fun e w' => e = .returned (.agg #[.int .i64 u.a, .int .i64 u.b, .int .i64 u.c, .int .i64 u.d]) ∧ (w'.cell? ⟨w.heap.size, 0, none⟩ = some (.int .i64 v.a) ∧ w'.cell? ⟨w.heap.size, 1, none⟩ = some (.int .i64 v.b) ∧ w'.cell? ⟨w.heap.size, 2, none⟩ = some (.int .i64 v.c) ∧ w'.cell? ⟨w.heap.size, 3, none⟩ = some (.int .i64 v.d)) ∧
          Hid (Calls Try.prog 27 #[.agg #[.int .i64 v.a, .int .i64 v.b, .int .i64 v.c, .int .i64 v.d], .agg #[.int .i64 u.a, .int .i64 u.b, .int .i64 u.c, .int .i64 u.d]] w' fun e w2 => e = .returned (.bool bt) ∧ (w2.cell? ⟨w.heap.size, 0, none⟩ = some (.int .i64 v.a) ∧ w2.cell? ⟨w.heap.size, 1, none⟩ = some (.int .i64 v.b) ∧ w2.cell? ⟨w.heap.size, 2, none⟩ = some (.int .i64 v.c) ∧ w2.cell? ⟨w.heap.size, 3, none⟩ = some (.int .i64 v.d)) ∧ Hid (EQ w w2 S a n v w.heap.size p t))) := by
        have hB : Below wr.heap.size wr wr.drew := (Below.refl _ wr).drew
        refine ((free_any (hM.below hB) hn hpl).mono ?_)
        rintro e w' ⟨rfl, b1⟩
        have y1 : EQ w w' S a n v w.heap.size p t := ⟨HQ.out.q, HQ.out.w.trans ((hB.trans b1).mono HQ.out.w.size), at_below (hB.trans b1) (Nat.le_refl _) HQ.out.b⟩
        obtain ⟨q0, q1, q2, q3, -⟩ := cells4 y1.b
        refine ⟨by rw [hu], ⟨q0, q1, q2, q3⟩, (fits_V v u w').mono ?_⟩
        rintro e w2 ⟨rfl, b2⟩
        have y2 : EQ w w2 S a n v w.heap.size p t := ⟨HQ.out.q, y1.w.trans (b2.mono y1.w.size), at_below b2 (Nat.le_refl _) y1.b⟩
        obtain ⟨q0, q1, q2, q3, -⟩ := cells4 y2.b
        exact ⟨by rw [hbt], ⟨q0, q1, q2, q3⟩, y2⟩
      have zz : wr.cell? ⟨w.heap.size, 0, none⟩ = some (.int .i64 v.a) ∧ wr.cell? ⟨w.heap.size, 1, none⟩ = some (.int .i64 v.b) ∧ wr.cell? ⟨w.heap.size, 2, none⟩ = some (.int .i64 v.c) ∧ wr.cell? ⟨w.heap.size, 3, none⟩ = some (.int .i64 v.d) := by
        obtain ⟨q0, q1, q2, q3, -⟩ := cells4 HQ.out.b
        exact ⟨q0, q1, q2, q3⟩
      have hsb := HP.out.bd s (List.mem_of_getElem? hs)
      have htl := HQ.out.q.lt HP.out.srt hs
      have hw : IntKind.i64.wrap (s.at' - t) = s.at' - t := by have := HA.out; rw [IntKind.wrap_i64]; omega
      have HU : Hid (u = pv S.C S.l p ∧ bt = decide (v.le u)) := ⟨hu, hbt⟩
      have HSS : Hid (S.l[p]? = some s) := hs
      clear hM elv hR hu hbt hs
      generalize S.l.length = ln at *
      go_wp2_with fail
      go_region_held3 (fun w' : World => w'.cell? ⟨w.heap.size, 0, none⟩ = some (.int .i64 v.a) ∧ w'.cell? ⟨w.heap.size, 1, none⟩ = some (.int .i64 v.b) ∧ w'.cell? ⟨w.heap.size, 2, none⟩ = some (.int .i64 v.c) ∧ w'.cell? ⟨w.heap.size, 3, none⟩ = some (.int .i64 v.d)) (first | (with_reducible assumption) | (with_reducible exact z4) | (with_reducible exact z3) | (with_reducible exact zz) | (exact zz) | go_keep) (first | (go_at_call 29; refine H29.out.mono ?_; rintro e w3 ⟨rfl, z3, h3⟩) | (go_at_call 27; refine h3.out.mono ?_; rintro e w4 ⟨rfl, z4, h4⟩))
      all_goals clear H29 zz h3
      all_goals cases bt
      all_goals have hbt := HU.out.2
      all_goals rw [HU.out.1] at hbt
      all_goals first
        | (have HN : Hid (Erq S.C S.l a n v (p + 1) s.at') := h4.out.q.skip HP.out.srt hn0 HSS.out (of_decide_eq_false hbt.symm)
           clear hbt
           go_wp2_with fail
           refine ⟨⟨p + 1, s.at', rfl, by simp, HN.out, h4.out.w, h4.out.b⟩, ?_⟩
           simp only [intOf]; omega)
        | (have hvl0 : v.le (pv S.C S.l p) := of_decide_eq_true hbt.symm
           have hvl : Hid (v.le (pv S.C S.l p)) := hvl0
           clear hbt hvl0
           by_cases hd : n ≤ s.at' - t
           · have HD : Hid (Ear (fa S.C S.l) a n v t ∧ t ≤ 1099511627776) := ⟨h4.out.q.found HP.out.srt HSS.out hvl.out hd, htop⟩
             go_wp2_with fail
             go_ret
             exact ⟨⟨t, rfl, HD⟩, h4.out.w⟩
           · have hd2 : s.at' - t < n := by omega
             have HN : Hid (Erq S.C S.l a n v (p + 1) t) := h4.out.q.step HP.out.srt HSS.out hvl.out hd2
             go_wp2_with fail
             refine ⟨⟨p + 1, t, rfl, by simp, HN.out, h4.out.w, h4.out.b⟩, ?_⟩
             simp only [intOf]; omega)
def rgE (a n : Int) : Bool := decide (0 ≤ a ∧ a ≤ 1099511627776 ∧ 1 ≤ n ∧ n ≤ 1099511627776)
/-- what Earliest answers -/
def EarA (C : V) (f : Int → V) (a n : Int) (v : V) (t c : Int) : Prop :=
  if v.ok = false then t = 0 ∧ c = 4 else if rgE a n = false then t = 0 ∧ c = 2 else if ¬ v.le C then t = 0 ∧ c = 7 else ∃ u, Ear f a n v u ∧ (if 1099511627776 < u + n then t = 0 ∧ c = 2 else t = u ∧ c = 0)
theorem EarA.uniq {C : V} {f : Int → V} {a n : Int} {v : V} {t c t' c' : Int} (h : EarA C f a n v t c) (k : EarA C f a n v t' c') : t = t' ∧ c = c' := by
  unfold EarA at h k
  split at h
  · rename_i q
    rw [if_pos q] at k
    omega
  · rename_i q
    rw [if_neg q] at k
    split at h
    · rename_i q
      rw [if_pos q] at k
      omega
    · rename_i q
      rw [if_neg q] at k
      split at h
      · rename_i q
        rw [if_pos q] at k
        omega
      · rename_i q
        rw [if_neg q] at k
        obtain ⟨u, h1, h2⟩ := h
        obtain ⟨u', k1, k2⟩ := k
        obtain rfl := h1.uniq k1
        split at h2
        · rename_i q
          rw [if_pos q] at k2
          omega
        · rename_i q
          rw [if_neg q] at k2
          omega
theorem formed_V (v : V) (w : World) : Calls Try.prog 22 #[.agg #[.int .i64 v.a, .int .i64 v.b, .int .i64 v.c, .int .i64 v.d]] w fun e w' => e = .returned (.bool v.ok) ∧ Below w.heap.size w w' := formed_any v.a v.b v.c v.d w
set_option maxHeartbeats 400000 in
theorem ear_bad (w : World) (p : Value) (a n : Int) (v : V) (hv : v.ok = false) : Calls Try.prog 18 #[p, .int .i64 a, .int .i64 n, .agg #[.int .i64 v.a, .int .i64 v.b, .int .i64 v.c, .int .i64 v.d]] w fun e w' => e = .returned (.tuple #[.int .i64 0, .int .i64 4]) ∧ Below w.heap.size w w' := by
  have H : Hid (∀ w, Calls Try.prog 22 #[.agg #[.int .i64 v.a, .int .i64 v.b, .int .i64 v.c, .int .i64 v.d]] w fun e w' => e = .returned (.bool false) ∧ Below w.heap.size w w') := fun w => by have := formed_V v w; rwa [hv] at this
  go_enter Try.func18, Try.ntmps18
  go_wp2_with (go_at_call 22; refine (H.out _).mono ?_)
  rintro e w1 ⟨rfl, b1⟩
  go_wp2_with fail
  go_ret2
  exact ⟨rfl, Below.trans (by go_grown) (b1.mono (by simp))⟩
set_option maxHeartbeats 1000000 in
theorem ear_range (w : World) (p : Value) (a n : Int) (v : V) (hv : v.ok = true) (hr : rgE a n = false) : Calls Try.prog 18 #[p, .int .i64 a, .int .i64 n, .agg #[.int .i64 v.a, .int .i64 v.b, .int .i64 v.c, .int .i64 v.d]] w fun e w' => e = .returned (.tuple #[.int .i64 0, .int .i64 2]) ∧ Below w.heap.size w w' := by
  have H : Hid (∀ w, Calls Try.prog 22 #[.agg #[.int .i64 v.a, .int .i64 v.b, .int .i64 v.c, .int .i64 v.d]] w fun e w' => e = .returned (.bool true) ∧ Below w.heap.size w w') := fun w => by have := formed_V v w; rwa [hv] at this
  have HR : Hid (¬ (0 ≤ a ∧ a ≤ 1099511627776 ∧ 1 ≤ n ∧ n ≤ 1099511627776)) := of_decide_eq_false hr
  clear hr
  go_enter Try.func18, Try.ntmps18
  go_wp2_with (go_at_call 22; refine (H.out _).mono ?_)
  rintro e w1 ⟨rfl, b1⟩
  have y1 : Hid (Below w.heap.size w w1) := Below.trans (by go_grown) (b1.mono (by simp))
  go_wp2_with fail
  all_goals first
    | (exfalso; have := HR.out; omega)
    | (go_ret2; exact ⟨rfl, y1.out⟩)
set_option maxHeartbeats 2000000 in
theorem ear_go {w : World} {pb : Nat} {S : PS} (h : Mem w pb S) (hP : Pf S.C S.l) (hn : S.l.length ≤ 60000) (a n : Int) (v : V) (hv : v.ok = true) (hr : rgE a n = true) :
    Calls Try.prog 18 #[.pointer (some ⟨pb, 0, none⟩), .int .i64 a, .int .i64 n, .agg #[.int .i64 v.a, .int .i64 v.b, .int .i64 v.c, .int .i64 v.d]] w fun e w' => (∃ t c : Int, e = .returned (.tuple #[.int .i64 t, .int .i64 c]) ∧ EarA S.C (fa S.C S.l) a n v t c) ∧ Below w.heap.size w w' := by
  have H : Hid (∀ w, Calls Try.prog 22 #[.agg #[.int .i64 v.a, .int .i64 v.b, .int .i64 v.c, .int .i64 v.d]] w fun e w' => e = .returned (.bool true) ∧ Below w.heap.size w w') := fun w => by have := formed_V v w; rwa [hv] at this
  have HR : 0 ≤ a ∧ a ≤ 1099511627776 ∧ 1 ≤ n ∧ n ≤ 1099511627776 := of_decide_eq_true hr
  obtain ⟨a0, a1, n0, n1⟩ := HR
  have HE : Hid (∀ t c : Int, (if ¬ v.le S.C then t = 0 ∧ c = 7 else ∃ u, Ear (fa S.C S.l) a n v u ∧ (if 1099511627776 < u + n then t = 0 ∧ c = 2 else t = u ∧ c = 0)) → EarA S.C (fa S.C S.l) a n v t c) := fun t c q => by
    unfold EarA
    rw [if_neg (by simp [hv]), if_neg (by simp [hr])]
    exact q
  have HM : Hid (Mem w pb S) := h
  have HP : Hid (Pf S.C S.l) := hP
  have HNL : Hid (S.l.length ≤ 60000) := hn
  have b0 : ¬ a < 0 := by omega
  have b1' : ¬ 1099511627776 < a := by omega
  have b2' : ¬ n < 1 := by omega
  have b3' : ¬ 1099511627776 < n := by omega
  clear h hP hv hr hn
  go_enter Try.func18, Try.ntmps18
  go_wp2_with (go_at_call 22; refine (H.out _).mono ?_)
  first | rintro e w1 rfl b1 | rintro e w1 ⟨rfl, b1⟩
  have z1 := at_below b1 (by simp) new0
  have y1 : Hid (Below w.heap.size w w1) := Below.trans (by go_grown) (b1.mono (by simp))
  obtain ⟨q0, q1, q2, q3, -⟩ := cells4 z1
  obtain ⟨m0, m1, m2, m3, -, -⟩ := (HM.out.below y1.out).cells
  clear H b1
  obtain ⟨bt, hbt⟩ : ∃ bt, bt = decide (v.le S.C) := ⟨_, rfl⟩
  have HT : Hid (bt = decide (v.le S.C)) := hbt
  have H27 : Hid (Calls Try.prog 27 #[.agg #[.int .i64 v.a, .int .i64 v.b, .int .i64 v.c, .int .i64 v.d], .agg #[.int .i64 S.C.a, .int .i64 S.C.b, .int .i64 S.C.c, .int .i64 S.C.d]] w1.drew fun e w2 => e = .returned (.bool bt) ∧ Hid (Below w.heap.size w w2 ∧ Bx w2 w.heap.size v)) := by
    refine (fits_V v S.C _).mono ?_
    rintro e w2 ⟨rfl, b2⟩
    have hB : Below w1.heap.size w1 w2 := ((Below.refl _ w1).drew).trans b2
    exact ⟨by rw [hbt], y1.out.trans (hB.mono y1.out.size), at_below hB (Nat.le_refl _) z1⟩
  clear hbt z1
  generalize hbx : w.heap.size = bx at *
  have HBX : Hid (w.heap.size = bx) := hbx
  clear hbx
  go_wp2_with fail
  go_region_with (go_at_call 27; refine H27.out.mono ?_; rintro e w2 ⟨rfl, h2⟩)
  all_goals clear H27 q0 q1 q2 q3 m0 m1 m2 m3
  all_goals have hbl : Hid (Below w.heap.size w w2) := h2.out.1.mono (Nat.le_of_eq HBX.out)
  all_goals obtain ⟨q0, q1, q2, q3, -⟩ := cells4 h2.out.2
  all_goals cases bt
  all_goals first
    | (have hC : Hid (¬ v.le S.C) := of_decide_eq_false HT.out.symm
       go_wp2_with fail
       go_ret2
       exact ⟨⟨0, 7, rfl, HE.out _ _ (by rw [if_pos hC.out]; exact ⟨rfl, rfl⟩)⟩, hbl.out⟩)
    | (have hC0 : v.le S.C := of_decide_eq_true HT.out.symm
       have hC : Hid (v.le S.C) := hC0
       clear hC0
       have H31 : Hid (Calls Try.prog 31 #[.pointer (some ⟨pb, 0, none⟩), .int .i64 a, .int .i64 n, .agg #[.int .i64 v.a, .int .i64 v.b, .int .i64 v.c, .int .i64 v.d]] w2 fun e w' => (∃ t : Int, e = .returned (.int .i64 t) ∧ Hid (Ear (fa S.C S.l) a n v t ∧ t ≤ 1099511627776)) ∧ Hid (Below w2.heap.size w2 w')) := search_at (HM.out.below hbl.out) HP.out HNL.out a n v a0 a1 (by omega) hC.out
       go_wp2_with (go_at_call 31; refine H31.out.mono ?_)
       rintro e w3 ⟨⟨t, rfl, ht⟩, b3⟩
       have hBf : Hid (Below w.heap.size w w3) := hbl.out.trans (b3.out.mono hbl.out.size)
       have ht0 : 0 ≤ t := by have := ht.out.1.ge; omega
       have ht1 := ht.out.2
       have hw : IntKind.i64.wrap (t + n) = t + n := by rw [IntKind.wrap_i64]; omega
       clear H31
       by_cases hm : 1099511627776 < t + n
       · go_wp2_with fail
         go_ret2
         exact ⟨⟨0, 2, rfl, HE.out _ _ (by rw [if_neg (fun q => q hC.out)]; exact ⟨t, ht.out.1, by rw [if_pos hm]; exact ⟨rfl, rfl⟩⟩)⟩, hBf.out⟩
       · go_wp2_with fail
         go_ret2
         exact ⟨⟨t, 0, rfl, HE.out _ _ (by rw [if_neg (fun q => q hC.out)]; exact ⟨t, ht.out.1, by rw [if_neg (by omega)]; exact ⟨rfl, rfl⟩⟩)⟩, hBf.out⟩)
end Go.Proofs.Ytkfpbpkadkhhnaa
