/-
  The contract of the program's Share.
-/
import Derived.Test.YtcgaekaollhmpaaGreatCShM
import Derived.Test.YtcgaekaollhmpaaGreatCRatN
namespace Go.Proofs.YtcgaekaollhmpaaGreat.Vs
open Go.RowKit

theorem cells2' {w : World} {g : Nat} {x y : Value} {ty : TypeId} (h : w.heap[g]? = some (.cells #[x, y] ty)) :
    w.cell? ⟨g, 0, none⟩ = some x ∧ w.cell? ⟨g, 1, none⟩ = some y ∧ w.frozen? ⟨g, 0, none⟩ = false ∧ w.frozen? ⟨g, 1, none⟩ = false ∧ g < w.heap.size ∧ ¬ g = w.heap.size := by
  have h2 : g < w.heap.size := (Array.getElem?_eq_some_iff.1 h).1
  exact ⟨Lib.cell_of_heap h 0, Lib.cell_of_heap h 1, Lib.frozen_of_heap h 0, Lib.frozen_of_heap h 1, h2, by omega⟩

theorem ix_at {v : V} {k : Nat} (hk : k < 4) : ∀ w, (Instr.index 23 (.agg #[.int .i64 v.a, .int .i64 v.b, .int .i64 v.c, .int .i64 v.d]) (.int .i64 k)).run Tryz.prog w = .ok (.int .i64 (v.at k)) w := by
  match k, hk with
  | 0, _ => exact ix0 _ _ _ _
  | 1, _ => exact ix1 _ _ _ _
  | 2, _ => exact ix2 _ _ _ _
  | 3, _ => exact ix3 _ _ _ _

theorem cell_at {w : World} {g : Nat} {v : V} {ty : TypeId} {k : Nat} (h : w.heap[g]? = some (.cells #[.int .i64 v.a, .int .i64 v.b, .int .i64 v.c, .int .i64 v.d] ty)) (hk : k < 4) : w.cell? ⟨g, k, none⟩ = some (.int .i64 (v.at k)) := by
  match k, hk with
  | 0, _ => exact Lib.cell_of_heap h 0
  | 1, _ => exact Lib.cell_of_heap h 1
  | 2, _ => exact Lib.cell_of_heap h 2
  | 3, _ => exact Lib.cell_of_heap h 3

set_option maxHeartbeats 1000000 in
theorem share_bad (a b c d e f g h wt : Int) (w : World) (hf : allOk [⟨a, b, c, d⟩, ⟨e, f, g, h⟩] = false) :
    Calls Tryz.prog 15 #[.agg #[.int .i64 a, .int .i64 b, .int .i64 c, .int .i64 d], .agg #[.int .i64 e, .int .i64 f, .int .i64 g, .int .i64 h], .int .i64 wt] w fun r w' => r = ans (0, 0, 4) ∧ Below w.heap.size w w' := by
  have HS : Hid (∀ (p c' : Nat) (w : World), Row w p 0 [⟨a, b, c, d⟩, ⟨e, f, g, h⟩] → Calls Tryz.prog 31 #[.slice (some ⟨p, 0, none⟩) 2 c'] w fun r w' => r = .returned (.bool false) ∧ Below w.heap.size w w') := fun p c' w hr => by have := allFormed_any [⟨a, b, c, d⟩, ⟨e, f, g, h⟩] p 0 c' w (by simp) hr; rwa [hf] at this
  clear hf
  go_enter Tryz.func15, Tryz.ntmps15
  go_wp2_with (go_at_call 31; refine (HS.out _ _ _ (row2 new3)).mono ?_; rintro e w1 ⟨rfl, b1⟩; have z1 := at_below b1 (Nat.le_refl _) (at_alloc new2); obtain ⟨r0, r1, rf0, rf1, rs, rn⟩ := cells2' z1; have y1 : Hid (Below w.heap.size w w1) := below_from (by go_grown) b1 (by simp; omega))
  have r := at_set2 (v := .int .u64 0) (v' := .int .u64 0) z1
  obtain ⟨c0, c1, -⟩ := cells2' r
  refine bodyPost_ret (by simp [results, Tryz.results15, go_sem, c0, c1]; rfl) rfl ?_
  exact ⟨rfl, (y1.out.setCell (by simp; omega) _).setCell (by simp; omega) _⟩

set_option maxHeartbeats 1000000 in
theorem share_weight (a b c d e f g h wt : Int) (w : World) (hf : allOk [⟨a, b, c, d⟩, ⟨e, f, g, h⟩] = true) (hw : wt < 1 ∨ 1000 < wt) :
    Calls Tryz.prog 15 #[.agg #[.int .i64 a, .int .i64 b, .int .i64 c, .int .i64 d], .agg #[.int .i64 e, .int .i64 f, .int .i64 g, .int .i64 h], .int .i64 wt] w fun r w' => r = ans (0, 0, 2) ∧ Below w.heap.size w w' := by
  have HS : Hid (∀ (p c' : Nat) (w : World), Row w p 0 [⟨a, b, c, d⟩, ⟨e, f, g, h⟩] → Calls Tryz.prog 31 #[.slice (some ⟨p, 0, none⟩) 2 c'] w fun r w' => r = .returned (.bool true) ∧ Below w.heap.size w w') := fun p c' w hr => by have := allFormed_any [⟨a, b, c, d⟩, ⟨e, f, g, h⟩] p 0 c' w (by simp) hr; rwa [hf] at this
  clear hf
  by_cases h1 : wt < 1
  · clear hw
    go_enter Tryz.func15, Tryz.ntmps15
    go_wp2_with (go_at_call 31; refine (HS.out _ _ _ (row2 new3)).mono ?_; rintro e w1 ⟨rfl, b1⟩; have z1 := at_below b1 (Nat.le_refl _) (at_alloc new2); obtain ⟨r0, r1, rf0, rf1, rs, rn⟩ := cells2' z1; have y1 : Hid (Below w.heap.size w w1) := below_from (by go_grown) b1 (by simp; omega))
    have r := at_set2 (v := .int .u64 0) (v' := .int .u64 0) z1
    obtain ⟨c0, c1, -⟩ := cells2' r
    refine bodyPost_ret (by simp [results, Tryz.results15, go_sem, c0, c1]; rfl) rfl ?_
    exact ⟨rfl, (y1.out.setCell (by simp; omega) _).setCell (by simp; omega) _⟩
  · have h1' : decide (wt < 1) = false := decide_eq_false h1
    have h2 : 1000 < wt := by omega
    clear hw
    go_enter Tryz.func15, Tryz.ntmps15
    go_wp2_with (go_at_call 31; refine (HS.out _ _ _ (row2 new3)).mono ?_; rintro e w1 ⟨rfl, b1⟩; have z1 := at_below b1 (Nat.le_refl _) (at_alloc new2); obtain ⟨r0, r1, rf0, rf1, rs, rn⟩ := cells2' z1; have y1 : Hid (Below w.heap.size w w1) := below_from (by go_grown) b1 (by simp; omega))
    have r := at_set2 (v := .int .u64 0) (v' := .int .u64 0) z1
    obtain ⟨c0, c1, -⟩ := cells2' r
    refine bodyPost_ret (by simp [results, Tryz.results15, go_sem, c0, c1]; rfl) rfl ?_
    exact ⟨rfl, (y1.out.setCell (by simp; omega) _).setCell (by simp; omega) _⟩

set_option maxHeartbeats 4000000 in
theorem share_good (v u : V) (wt : Nat) (w : World) (hv : v.ok = true) (hu : u.ok = true) (hw1 : 1 ≤ wt) (hw2 : wt ≤ 1000) :
    Calls Tryz.prog 15 #[.agg #[.int .i64 v.a, .int .i64 v.b, .int .i64 v.c, .int .i64 v.d], .agg #[.int .i64 u.a, .int .i64 u.b, .int .i64 u.c, .int .i64 u.d], .int .i64 wt] w fun r w' => r = ans (Q.newR (fS v u 4).1 ((fS v u 4).2 * wt)) ∧ Below w.heap.size w w' := by
  have HS : Hid (∀ (p c' : Nat) (w : World), Row w p 0 [v, u] → Calls Tryz.prog 31 #[.slice (some ⟨p, 0, none⟩) 2 c'] w fun r w' => r = .returned (.bool true) ∧ Below w.heap.size w w') := fun p c' w hr => by have := allFormed_any [v, u] p 0 c' w (by simp) hr; rwa [show allOk [v, u] = true by simp [allOk, hv, hu]] at this
  have HV : Hid (v.ok = true ∧ u.ok = true) := ⟨hv, hu⟩
  have d1 : decide ((wt : Int) < 1) = false := decide_eq_false (by omega)
  have d2 : decide ((1000 : Int) < (wt : Int)) = false := decide_eq_false (by omega)
  clear hv hu
  go_enter Tryz.func15, Tryz.ntmps15
  go_wp2_with (go_at_call 31; refine (HS.out _ _ _ (row2 new3)).mono ?_; rintro e w1 ⟨rfl, b1⟩; have z1 := at_below b1 (Nat.le_refl _) (at_alloc new2); have z2 := at_below b1 (Nat.le_refl _) (at_alloc (at_alloc new1)); have z3 := at_below b1 (Nat.le_refl _) (at_alloc (at_alloc (at_alloc new0))); obtain ⟨r0, r1, r2, r3, rf0, rf1, rf2, rf3, rs, rn⟩ := cells4 z3; have y1 : Hid (Below w.heap.size w w1) := below_from (by go_grown) b1 (by simp; omega); clear b1)
  clear r0 r1 r2 r3 rf0 rf1 rf2 rf3 rs rn HS z3
  go_loopw [30] (fun x wr => ∃ (k N D : Nat), x = .int .i64 k ∧ k ≤ 4 ∧ N = (fS v u k).1 / (fS v u k).1.gcd ((fS v u k).2 * wt) ∧ D = (fS v u k).2 * wt / (fS v u k).1.gcd ((fS v u k).2 * wt) ∧ wr.heap[w.heap.size + 1 + 1]? = some (.cells #[.int .u64 0, .int .u64 0] 49) ∧ wr.heap[w.heap.size + 1]? = some (.cells #[.int .i64 u.a, .int .i64 u.b, .int .i64 u.c, .int .i64 u.d] 23) ∧ wr.heap[w1.heap.size]? = some (.cells #[.int .u64 N, .int .u64 D] 49) ∧ Below w.heap.size w wr) (fun x _ => 4 - (intOf x).toNat)
  case atStart => exact ⟨0, 0, 1, rfl, by omega, by simp [fS], by simp [fS]; rw [Nat.div_self (by omega)], at_alloc z1, at_alloc z2, new0, y1.out.alloc y1.out.size _⟩
  case round =>
    have hne1 : w.heap.size + 1 + 1 ≠ w1.heap.size := Nat.ne_of_lt (Array.getElem?_eq_some_iff.1 z1).1
    have hne2 : w.heap.size + 1 ≠ w1.heap.size := Nat.ne_of_lt (Array.getElem?_eq_some_iff.1 z2).1
    have hw10 : w.heap.size ≤ w1.heap.size := y1.out.size
    clear z1 z2 y1
    obtain ⟨k, N, D, rfl, hk, hN, hD, hres, hall, hgr, hb⟩ := hrel
    have HB : Hid (Below w.heap.size w wr) := hb
    have HND : Hid (N = (fS v u k).1 / (fS v u k).1.gcd ((fS v u k).2 * wt) ∧ D = (fS v u k).2 * wt / (fS v u k).1.gcd ((fS v u k).2 * wt)) := ⟨hN, hD⟩
    clear hb hN hD
    obtain ⟨r0, r1, rf0, rf1, rs, rn⟩ := cells2' hres
    obtain ⟨s0, s1, sf0, sf1, ss, sn⟩ := cells2' hgr
    by_cases h0 : k = 4
    · subst h0
      clear d1 d2
      go_wp2_with fail
      have r := at_set2 (v := .int .u64 N) (v' := .int .u64 D) hres
      obtain ⟨c0, c1, -⟩ := cells2' r
      refine bodyPost_ret (by simp [results, Tryz.results15, go_sem, c0, c1]; rfl) rfl ?_
      refine ⟨?_, (HB.out.setCell (by simp; omega) _).setCell (by simp; omega) _⟩
      unfold Q.newR
      have := fS_bound HV.out.1 HV.out.2 4
      rw [if_neg (Nat.ne_of_gt (Nat.mul_pos this.2.1 hw1)), ← HND.out.1, ← HND.out.2]
      rfl
    · have hk4 : k < 4 := by omega
      have hd : decide ((k : Int) < 4) = true := decide_eq_true (by omega)
      have hkI : (k : Int) < 4 := by omega
      have bv := at_ok HV.out.1 k
      have bu := at_ok HV.out.2 k
      have bf := fS_bound HV.out.1 HV.out.2 k
      have iv := ix_at (v := v) hk4
      have cu := cell_at hall hk4
      by_cases ha : u.at k = 0
      · rw [ha] at cu
        have hF : Hid (fS v u (k + 1) = fS v u k) := fS_skip (v := v) ha
        clear bv bu bf
        generalize v.at k = x at *
        go_wp2_with fail
        refine ⟨⟨k + 1, N, D, by simp, by omega, by rw [hF.out]; exact HND.out.1, by rw [hF.out]; exact HND.out.2, hres, hall, hgr, HB.out⟩, ?_⟩
        simp only [intOf]; omega
      · obtain ⟨x, hx⟩ : ∃ x : Nat, v.at k = x := ⟨(v.at k).toNat, by omega⟩
        obtain ⟨a, hua⟩ : ∃ a : Nat, u.at k = a := ⟨(u.at k).toNat, by omega⟩
        have hxt : (v.at k).toNat = x := by omega
        have hat : (u.at k).toNat = a := by omega
        have T1 : Hid ((fS v u k).1 * a < x * (fS v u k).2 → fS v u (k + 1) = (x, a)) := fun h => by
          have := fS_take (v := v) (all := u) (k := k) ha (by rw [hxt, hat]; exact h)
          rwa [hxt, hat] at this
        have T2 : Hid (¬ (fS v u k).1 * a < x * (fS v u k).2 → fS v u (k + 1) = fS v u k) := fun h => fS_leave (v := v) (all := u) (k := k) ha (by rw [hxt, hat]; exact h)
        rw [hx] at iv bv
        rw [hua] at cu bu ha
        have ha0 : ((a : Int) == 0) = false := by simp; omega
        obtain ⟨m, hm⟩ : ∃ m, m = a * wt := ⟨_, rfl⟩
        have hmb : m ≤ 1099511627776 * 1000 := by rw [hm]; exact Nat.mul_le_mul (by omega) hw2
        have hm0 : 0 < m := by rw [hm]; exact Nat.mul_pos (by omega) hw1
        have e2 : IntKind.i64.wrap ((a : Int) * (wt : Int)) = (m : Int) := by
          rw [show (a : Int) * (wt : Int) = (m : Int) by rw [hm]; simp]
          exact wrap_ok (by omega) (by omega)
        have e1 : IntKind.u64.wrap (x : Int) = (x : Int) := by rw [IntKind.wrap_u64]; omega
        have e3 : IntKind.u64.wrap (m : Int) = (m : Int) := by rw [IntKind.wrap_u64]; omega
        obtain ⟨n, hn⟩ : ∃ n, n = (fS v u k).1 := ⟨_, rfl⟩
        obtain ⟨d, hdd⟩ : ∃ d, d = (fS v u k).2 := ⟨_, rfl⟩
        rw [← hn, ← hdd] at bf
        have hNs := HND.out.1
        have hDs := HND.out.2
        rw [← hn, ← hdd] at hNs hDs
        have hdw : 0 < d * wt := Nat.mul_pos bf.2.1 hw1
        have hdwb : d * wt ≤ 1099511627776 * 1000 := Nat.mul_le_mul bf.2.2 hw2
        have hDpos : D ≠ 0 := by rw [hDs]; exact Nat.ne_of_gt (div_gcd_pos hdw)
        have hNb : N < 18446744073709551616 := by rw [hNs]; exact div_lt (by omega)
        have hDb : D < 18446744073709551616 := by rw [hDs]; exact div_lt (by omega)
        have HN : Hid (∀ w, Calls Tryz.prog 32 #[.int .u64 x, .int .u64 m] w fun e w' => e = .returned (.tuple #[.agg #[.int .u64 (x / x.gcd m : Nat), .int .u64 (m / x.gcd m : Nat)], .int .i64 0]) ∧ Below w.heap.size w w') := fun w => new_good x m w (by omega) (by omega) hm0
        have HC : Hid (∀ w, Calls Tryz.prog 33 #[.agg #[.int .u64 (x / x.gcd m : Nat), .int .u64 (m / x.gcd m : Nat)], .agg #[.int .u64 N, .int .u64 D]] w fun e w' => e = .returned (.tuple #[.int .i64 (Q.ord (x / x.gcd m * D) (N * (m / x.gcd m))), .int .i64 0]) ∧ Below w.heap.size w w') := fun w => rat_cmp_good (x / x.gcd m) (m / x.gcd m) N D w (div_lt (by omega)) (div_lt (by omega)) hNb hDb (Nat.ne_of_gt (div_gcd_pos hm0)) hDpos
        have hlt : N * (m / x.gcd m) < x / x.gcd m * D ↔ n * a < x * d := by
          rw [hNs, hDs, lt_low hm0 hdw, hm, ← Nat.mul_assoc, ← Nat.mul_assoc]
          exact Nat.mul_lt_mul_right hw1
        have hc := Q.ord_cases (x / x.gcd m * D) (N * (m / x.gcd m))
        have HM : Hid (m = a * wt ∧ n = (fS v u k).1 ∧ d = (fS v u k).2) := ⟨hm, hn, hdd⟩
        have HE : Hid ((x / x.gcd m : Nat) = x / x.gcd m ∧ (m / x.gcd m : Nat) = m / x.gcd m) := ⟨rfl, rfl⟩
        obtain ⟨N', hN'⟩ : ∃ N', N' = x / x.gcd m := ⟨_, rfl⟩
        obtain ⟨D', hD'⟩ : ∃ D', D' = m / x.gcd m := ⟨_, rfl⟩
        rw [← hN', ← hD'] at HN HC hlt hc
        obtain ⟨o, ho⟩ : ∃ o, o = Q.ord (N' * D) (N * D') := ⟨_, rfl⟩
        rw [← ho] at HC hc
        have HP : Hid (N' = x / x.gcd m ∧ D' = m / x.gcd m) := ⟨hN', hD'⟩
        clear hm hn hdd hNs hDs hN' hD' ho HE hua hx hxt hat bf hdw hdwb hDpos hNb hDb
        by_cases hgt : n * a < x * d
        · have ho : 0 < o := by have := hlt.2 hgt; omega
          clear hlt hc
          go_wp2_with (first
            | (go_at_call 32; refine (HN.out _).mono ?_; rintro e w2 ⟨rfl, b2⟩; have p1 := at_below b2 (Nat.le_refl _) hres; have p2 := at_below b2 (Nat.le_refl _) hall; have p3 := at_below b2 (Nat.le_refl _) hgr; have y2 : Hid (Below w.heap.size w w2) := below_from HB.out b2 HB.out.size; clear b2; clear r0 r1 rf0 rf1 rs rn s0 s1 sf0 sf1 ss sn; obtain ⟨s0, s1, sf0, sf1, ss, sn⟩ := cells2' p3)
            | (go_at_call 33; refine (HC.out _).mono ?_; rintro e w3 ⟨rfl, b3⟩; have q1 := at_below b3 (Nat.le_refl _) (at_alloc p1); have q2 := at_below b3 (Nat.le_refl _) (at_alloc p2); have q3 := at_below b3 (Nat.le_refl _) (at_alloc p3); have q4 := at_below b3 (Nat.le_refl _) new0; have y3 : Hid (Below w.heap.size w w3) := below_from (y2.out.alloc y2.out.size _) b3 (by have := y2.out.size; simp; omega); clear b3; clear s0 s1 sf0 sf1 ss sn; obtain ⟨s0, s1, sf0, sf1, ss, sn⟩ := cells2' q3; obtain ⟨t0, t1, tf0, tf1, ts, tn⟩ := cells2' q4))
          refine ⟨⟨k + 1, N', D', by simp, by omega, ?_, ?_, ?_, ?_, ?_, ?_⟩, ?_⟩
          · rw [T1.out (by rw [← HM.out.2.1, ← HM.out.2.2]; exact hgt)]; simp only []; rw [← HM.out.1]; exact HP.out.1
          · rw [T1.out (by rw [← HM.out.2.1, ← HM.out.2.2]; exact hgt)]; simp only []; rw [← HM.out.1]; exact HP.out.2
          · exact at_other (at_other q1 hne1) hne1
          · exact at_other (at_other q2 hne2) hne2
          · exact at_set2 q3
          · exact (y3.out.setCell (p := ⟨w1.heap.size, 0, none⟩) hw10 _).setCell (p := ⟨w1.heap.size, 1, none⟩) hw10 _
          · simp only [intOf]; omega
        · have ho : ¬ 0 < o := by have := fun h => hgt (hlt.1 h); omega
          have ho' : decide (0 < o) = false := decide_eq_false ho
          clear hlt hc
          go_wp2_with (first
            | (go_at_call 32; refine (HN.out _).mono ?_; rintro e w2 ⟨rfl, b2⟩; have p1 := at_below b2 (Nat.le_refl _) hres; have p2 := at_below b2 (Nat.le_refl _) hall; have p3 := at_below b2 (Nat.le_refl _) hgr; have y2 : Hid (Below w.heap.size w w2) := below_from HB.out b2 HB.out.size; clear b2; clear r0 r1 rf0 rf1 rs rn s0 s1 sf0 sf1 ss sn; obtain ⟨s0, s1, sf0, sf1, ss, sn⟩ := cells2' p3)
            | (go_at_call 33; refine (HC.out _).mono ?_; rintro e w3 ⟨rfl, b3⟩; have q1 := at_below b3 (Nat.le_refl _) (at_alloc p1); have q2 := at_below b3 (Nat.le_refl _) (at_alloc p2); have q3 := at_below b3 (Nat.le_refl _) (at_alloc p3); have y3 : Hid (Below w.heap.size w w3) := below_from (y2.out.alloc y2.out.size _) b3 (by have := y2.out.size; simp; omega); clear b3; clear s0 s1 sf0 sf1 ss sn))
          have hF := T2.out (by rw [← HM.out.2.1, ← HM.out.2.2]; exact hgt)
          refine ⟨⟨k + 1, N, D, by simp, by omega, by rw [hF]; exact HND.out.1, by rw [hF]; exact HND.out.2, q1, q2, q3, y3.out⟩, ?_⟩
          simp only [intOf]; omega

theorem share_any (v u : V) (wt : Int) (w : World) :
    Calls Tryz.prog 15 #[.agg #[.int .i64 v.a, .int .i64 v.b, .int .i64 v.c, .int .i64 v.d], .agg #[.int .i64 u.a, .int .i64 u.b, .int .i64 u.c, .int .i64 u.d], .int .i64 wt] w fun r w' => r = ans (shareR v u wt) ∧ Below w.heap.size w w' := by
  unfold shareR
  by_cases h : (v.ok && u.ok) = true
  · rw [if_pos h]
    have h' := Bool.and_eq_true_iff.1 h
    by_cases hw : wt < 1 ∨ 1000 < wt
    · rw [if_pos hw]
      exact share_weight v.a v.b v.c v.d u.a u.b u.c u.d wt w (by simp only [allOk, List.all_cons, List.all_nil, Bool.and_true]; exact h) hw
    · rw [if_neg hw]
      obtain ⟨n, rfl⟩ : ∃ n : Nat, wt = n := ⟨wt.toNat, by omega⟩
      exact share_good v u n w h'.1 h'.2 (by omega) (by omega)
  · rw [if_neg h]
    exact share_bad v.a v.b v.c v.d u.a u.b u.c u.d wt w (by simp only [allOk, List.all_cons, List.all_nil, Bool.and_true]; exact Bool.eq_false_iff.2 h)

end Go.Proofs.YtcgaekaollhmpaaGreat.Vs
