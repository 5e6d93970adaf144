/-
  The contract of the reference's Share.
-/
import Derived.Test.YtcgaekaollhmpaaGreatCShA
import Derived.Test.YtcgaekaollhmpaaGreatCOver
import Derived.Test.YtcgaekaollhmpaaGreatCRatN
import Derived.Test.YtcgaekaollhmpaaGreatCLawA
namespace Go.Proofs.YtcgaekaollhmpaaGreat.Vs
open Go.RowKit Go.Sort

set_option maxHeartbeats 1000000 in
theorem rshare_bad1 (a b c d e f g h wt : Int) (w : World) (hf : fm a b c d = false) :
    Calls Tryz.prog 29 #[.agg #[.int .i64 a, .int .i64 b, .int .i64 c, .int .i64 d], .agg #[.int .i64 e, .int .i64 f, .int .i64 g, .int .i64 h], .int .i64 wt] w fun r w' => r = ans (0, 0, 4) ∧ RowKit.Below w.heap.size w w' := by
  have HC : Hid (∀ (w : World), Calls Tryz.prog 50 #[.agg #[.int .i64 a, .int .i64 b, .int .i64 c, .int .i64 d]] w fun e w' => e = .returned (.bool false) ∧ RowKit.Below w.heap.size w w') := fun w => by have := rformed_any a b c d w; rwa [hf] at this
  clear hf
  go_enter Tryz.func29, Tryz.ntmps29
  go_wp2_with (go_at_call 50; refine (HC.out _).mono ?_; rintro e w1 ⟨rfl, b1⟩; have z1 := at_below b1 (Nat.le_refl _) new2; obtain ⟨r0, r1, rf0, rf1, rs, rn⟩ := cells2' z1; have y1 : Hid (RowKit.Below w.heap.size w w1) := below_from (by go_grown) b1 (by simp; omega))
  have r := at_set2 (v := .int .u64 0) (v' := .int .u64 0) z1
  obtain ⟨c0, c1, -⟩ := cells2' r
  refine bodyPost_ret (by simp [results, Tryz.results29, go_sem, c0, c1]; rfl) rfl ?_
  exact ⟨rfl, (y1.out.setCell (by simp; omega) _).setCell (by simp; omega) _⟩

set_option maxHeartbeats 1000000 in
theorem rshare_bad2 (a b c d e f g h wt : Int) (w : World) (ht : fm a b c d = true) (hf : fm e f g h = false) :
    Calls Tryz.prog 29 #[.agg #[.int .i64 a, .int .i64 b, .int .i64 c, .int .i64 d], .agg #[.int .i64 e, .int .i64 f, .int .i64 g, .int .i64 h], .int .i64 wt] w fun r w' => r = ans (0, 0, 4) ∧ RowKit.Below w.heap.size w w' := by
  have HC : Hid (∀ (w : World), Calls Tryz.prog 50 #[.agg #[.int .i64 a, .int .i64 b, .int .i64 c, .int .i64 d]] w fun e w' => e = .returned (.bool true) ∧ RowKit.Below w.heap.size w w') := fun w => by have := rformed_any a b c d w; rwa [ht] at this
  have HD : Hid (∀ (w : World), Calls Tryz.prog 50 #[.agg #[.int .i64 e, .int .i64 f, .int .i64 g, .int .i64 h]] w fun e w' => e = .returned (.bool false) ∧ RowKit.Below w.heap.size w w') := fun w => by have := rformed_any e f g h w; rwa [hf] at this
  clear hf ht
  go_enter Tryz.func29, Tryz.ntmps29
  go_wp2_with (first
    | (go_at_call_of 50 (Value.agg #[.int .i64 a, .int .i64 b, .int .i64 c, .int .i64 d]); refine (HC.out _).mono ?_; rintro e w1 ⟨rfl, b1⟩; have z1 := at_below b1 (Nat.le_refl _) new2; have z2 := at_below b1 (Nat.le_refl _) (at_alloc new1); obtain ⟨k0, k1, k2, k3, kf0, kf1, kf2, kf3, ks, kn⟩ := cells4 z2; have y1 : Hid (RowKit.Below w.heap.size w w1) := below_from (by go_grown) b1 (by simp; omega); clear b1)
    | (go_at_call_of 50 (Value.agg #[.int .i64 e, .int .i64 f, .int .i64 g, .int .i64 h]); refine (HD.out _).mono ?_; rintro e w2 ⟨rfl, b2⟩; have x1 := at_below b2 (Nat.le_refl _) z1; obtain ⟨r0, r1, rf0, rf1, rs, rn⟩ := cells2' x1; have y2 : Hid (RowKit.Below w.heap.size w w2) := below_from y1.out b2 y1.out.size))
  have r := at_set2 (v := .int .u64 0) (v' := .int .u64 0) x1
  obtain ⟨c0, c1, -⟩ := cells2' r
  refine bodyPost_ret (by simp [results, Tryz.results29, go_sem, c0, c1]; rfl) rfl ?_
  exact ⟨rfl, (y2.out.setCell (by simp; omega) _).setCell (by simp; omega) _⟩

set_option maxHeartbeats 1000000 in
theorem rshare_weight (a b c d e f g h wt : Int) (w : World) (ht : fm a b c d = true) (hf : fm e f g h = true) (hw : wt < 1 ∨ 1000 < wt) :
    Calls Tryz.prog 29 #[.agg #[.int .i64 a, .int .i64 b, .int .i64 c, .int .i64 d], .agg #[.int .i64 e, .int .i64 f, .int .i64 g, .int .i64 h], .int .i64 wt] w fun r w' => r = ans (0, 0, 2) ∧ RowKit.Below w.heap.size w w' := by
  have HC : Hid (∀ (w : World), Calls Tryz.prog 50 #[.agg #[.int .i64 a, .int .i64 b, .int .i64 c, .int .i64 d]] w fun e w' => e = .returned (.bool true) ∧ RowKit.Below w.heap.size w w') := fun w => by have := rformed_any a b c d w; rwa [ht] at this
  have HD : Hid (∀ (w : World), Calls Tryz.prog 50 #[.agg #[.int .i64 e, .int .i64 f, .int .i64 g, .int .i64 h]] w fun e w' => e = .returned (.bool true) ∧ RowKit.Below w.heap.size w w') := fun w => by have := rformed_any e f g h w; rwa [hf] at this
  clear hf ht
  have hcase : wt < 1 ∨ (decide (wt < 1) = false ∧ 1000 < wt) := by
    by_cases h1 : wt < 1
    · exact .inl h1
    · exact .inr ⟨decide_eq_false h1, by omega⟩
  clear hw
  rcases hcase with h1 | ⟨h1, h2⟩
  all_goals go_enter Tryz.func29, Tryz.ntmps29
  all_goals go_wp2_with (first
    | (go_at_call_of 50 (Value.agg #[.int .i64 a, .int .i64 b, .int .i64 c, .int .i64 d]); refine (HC.out _).mono ?_; rintro e w1 ⟨rfl, b1⟩; have z1 := at_below b1 (Nat.le_refl _) new2; have z2 := at_below b1 (Nat.le_refl _) (at_alloc new1); obtain ⟨k0, k1, k2, k3, kf0, kf1, kf2, kf3, ks, kn⟩ := cells4 z2; have y1 : Hid (RowKit.Below w.heap.size w w1) := below_from (by go_grown) b1 (by simp; omega); clear b1)
    | (go_at_call_of 50 (Value.agg #[.int .i64 e, .int .i64 f, .int .i64 g, .int .i64 h]); refine (HD.out _).mono ?_; rintro e w2 ⟨rfl, b2⟩; have x1 := at_below b2 (Nat.le_refl _) z1; obtain ⟨r0, r1, rf0, rf1, rs, rn⟩ := cells2' x1; have y2 : Hid (RowKit.Below w.heap.size w w2) := below_from y1.out b2 y1.out.size))
  all_goals
    have r := at_set2 (v := .int .u64 0) (v' := .int .u64 0) x1
    obtain ⟨c0, c1, -⟩ := cells2' r
    refine bodyPost_ret (by simp [results, Tryz.results29, go_sem, c0, c1]; rfl) rfl ?_
    exact ⟨rfl, (y2.out.setCell (by simp; omega) _).setCell (by simp; omega) _⟩

set_option maxHeartbeats 4000000 in
theorem rshare_good (v u : V) (wt : Nat) (w : World) (hv : v.ok = true) (hu : u.ok = true) (hw1 : 1 ≤ wt) (hw2 : wt ≤ 1000) :
    Calls Tryz.prog 29 #[.agg #[.int .i64 v.a, .int .i64 v.b, .int .i64 v.c, .int .i64 v.d], .agg #[.int .i64 u.a, .int .i64 u.b, .int .i64 u.c, .int .i64 u.d], .int .i64 wt] w fun r w' => r = ans (Q.newR (fS v u 4).1 ((fS v u 4).2 * wt)) ∧ RowKit.Below w.heap.size w w' := by
  have HC : Hid (∀ (w : World), Calls Tryz.prog 50 #[.agg #[.int .i64 v.a, .int .i64 v.b, .int .i64 v.c, .int .i64 v.d]] w fun e w' => e = .returned (.bool true) ∧ RowKit.Below w.heap.size w w') := fun w => by have := rformed_any v.a v.b v.c v.d w; rwa [show fm v.a v.b v.c v.d = true from hv] at this
  have HD : Hid (∀ (w : World), Calls Tryz.prog 50 #[.agg #[.int .i64 u.a, .int .i64 u.b, .int .i64 u.c, .int .i64 u.d]] w fun e w' => e = .returned (.bool true) ∧ RowKit.Below w.heap.size w w') := fun w => by have := rformed_any u.a u.b u.c u.d w; rwa [show fm u.a u.b u.c u.d = true from hu] at this
  have HV : Hid (v.ok = true ∧ u.ok = true) := ⟨hv, hu⟩
  have d1 : decide ((wt : Int) < 1) = false := decide_eq_false (by omega)
  have d2 : decide ((1000 : Int) < (wt : Int)) = false := decide_eq_false (by omega)
  clear hv hu
  go_enter Tryz.func29, Tryz.ntmps29
  go_wp2_with (first
    | (go_at_call_of 50 (Value.agg #[.int .i64 v.a, .int .i64 v.b, .int .i64 v.c, .int .i64 v.d]); refine (HC.out _).mono ?_; rintro e w1 ⟨rfl, b1⟩; have z1 := at_below b1 (Nat.le_refl _) new2; have z2 := at_below b1 (Nat.le_refl _) (at_alloc new1); have z3 := at_below b1 (Nat.le_refl _) (at_alloc (at_alloc new0)); obtain ⟨k0, k1, k2, k3, kf0, kf1, kf2, kf3, ks, kn⟩ := cells4 z2; have y1 : Hid (RowKit.Below w.heap.size w w1) := below_from (by go_grown) b1 (by simp; omega); clear b1)
    | (go_at_call_of 50 (Value.agg #[.int .i64 u.a, .int .i64 u.b, .int .i64 u.c, .int .i64 u.d]); refine (HD.out _).mono ?_; rintro e w2 ⟨rfl, b2⟩; have x1 := at_below b2 (Nat.le_refl _) z1; have x2 := at_below b2 (Nat.le_refl _) z2; have x3 := at_below b2 (Nat.le_refl _) z3; clear k0 k1 k2 k3 kf0 kf1 kf2 kf3 ks kn z1 z2 z3; have y2 : Hid (RowKit.Below w.heap.size w w2) := below_from y1.out b2 y1.out.size; clear b2 y1))
  go_loopw [8, 9, 10] (fun s8 s9 s10 wr => ∃ (k n d : Nat), s8 = .int .i64 n ∧ s9 = .int .i64 d ∧ s10 = .int .i64 k ∧ k ≤ 4 ∧ fS v u k = (n, d) ∧ wr.heap[w.heap.size + 1 + 1]? = some (.cells #[.int .u64 0, .int .u64 0] 77) ∧ wr.heap[w.heap.size + 1]? = some (.cells #[.int .i64 u.a, .int .i64 u.b, .int .i64 u.c, .int .i64 u.d] 23) ∧ wr.heap[w.heap.size]? = some (.cells #[.int .i64 v.a, .int .i64 v.b, .int .i64 v.c, .int .i64 v.d] 23) ∧ RowKit.Below w.heap.size w wr) (fun _ _ x _ => 4 - (intOf x).toNat)
  case atStart => exact ⟨0, 0, 1, rfl, rfl, rfl, by omega, rfl, x1, x2, x3, y2.out⟩
  case round =>
    clear x1 x2 x3 y2 HC HD
    obtain ⟨k, n, d, rfl, rfl, rfl, hk, hF, hres, hall, hvec, hb⟩ := hrel
    have HF : Hid (fS v u k = (n, d)) := hF
    have HB : Hid (RowKit.Below w.heap.size w wr) := hb
    have bf := fS_bound HV.out.1 HV.out.2 k
    rw [hF] at bf
    simp only [] at bf
    clear hb hF
    obtain ⟨r0, r1, rf0, rf1, rs, rn⟩ := cells2' hres
    by_cases h0 : k = 4
    · subst h0
      obtain ⟨m, hm⟩ : ∃ m, m = d * wt := ⟨_, rfl⟩
      have hmb : m ≤ 1099511627776 * 1000 := by rw [hm]; exact Nat.mul_le_mul bf.2.2 hw2
      have hm0 : 0 < m := by rw [hm]; exact Nat.mul_pos bf.2.1 hw1
      have e2 : IntKind.u64.wrap ((d : Int) * (wt : Int)) = (m : Int) := by
        rw [show (d : Int) * (wt : Int) = (m : Int) by rw [hm]; simp, IntKind.wrap_u64]
        omega
      have e1 : IntKind.u64.wrap (n : Int) = (n : Int) := by rw [IntKind.wrap_u64]; omega
      have e3 : IntKind.u64.wrap (d : Int) = (d : Int) := by rw [IntKind.wrap_u64]; omega
      have e4 : IntKind.u64.wrap (wt : Int) = (wt : Int) := by rw [IntKind.wrap_u64]; omega
      obtain ⟨N, hN⟩ : ∃ N, n / n.gcd m = N := ⟨_, rfl⟩
      obtain ⟨D, hD⟩ : ∃ D, m / n.gcd m = D := ⟨_, rfl⟩
      have HR : Hid (∀ w, Calls Tryz.prog 52 #[.int .u64 n, .int .u64 m] w fun e w' => e = .returned (.tuple #[.agg #[.int .u64 N, .int .u64 D], .int .i64 0]) ∧ RowKit.Below w.heap.size w w') := fun w => rnew_good n m N D w (by omega) (by omega) hm0 hN hD
      have HQ : Hid (Q.newR (fS v u 4).1 ((fS v u 4).2 * wt) = (N, D, 0)) := by
        rw [HF.out]
        simp only []
        rw [← hm]
        unfold Q.newR
        rw [if_neg (by omega), hN, hD]
        exact (rfl : (N, D, 0) = (N, D, 0))
      clear hm hN hD bf d1 d2
      go_wp2_with (go_at_call 52; refine (HR.out _).mono ?_; rintro e w2 ⟨rfl, b2⟩; have x1 := at_below b2 (Nat.le_refl _) hres; clear r0 r1 rf0 rf1 rs rn; obtain ⟨r0, r1, rf0, rf1, rs, rn⟩ := cells2' x1; have y2 : Hid (RowKit.Below w.heap.size w w2) := below_from HB.out b2 HB.out.size)
      have r := at_set2 (v := .int .u64 N) (v' := .int .u64 D) x1
      obtain ⟨c0, c1, -⟩ := cells2' r
      refine bodyPost_ret (by simp [results, Tryz.results29, go_sem, c0, c1]; rfl) rfl ?_
      exact ⟨by rw [HQ.out]; rfl, (y2.out.setCell (by simp; omega) _).setCell (by simp; omega) _⟩
    · have hk4 : k < 4 := by omega
      have hd : decide ((k : Int) < 4) = true := decide_eq_true (by omega)
      have hkI : (k : Int) < 4 := by omega
      have bv := at_ok HV.out.1 k
      have bu := at_ok HV.out.2 k
      have cv := cell_at hvec hk4
      have cu := cell_at hall hk4
      by_cases ha : u.at k = 0
      · rw [ha] at cu
        have hS : Hid (fS v u (k + 1) = fS v u k) := fS_skip (v := v) ha
        clear bv bu bf cv
        go_wp2_with fail
        refine ⟨⟨k + 1, n, d, rfl, rfl, by simp, by omega, by rw [hS.out]; exact HF.out, hres, hall, hvec, HB.out⟩, ?_⟩
        simp only [intOf]; omega
      · obtain ⟨x, hx⟩ : ∃ x : Nat, v.at k = x := ⟨(v.at k).toNat, by omega⟩
        obtain ⟨a, hua⟩ : ∃ a : Nat, u.at k = a := ⟨(u.at k).toNat, by omega⟩
        have hxt : (v.at k).toNat = x := by omega
        have hat : (u.at k).toNat = a := by omega
        have T1 : Hid (n * a < x * d → fS v u (k + 1) = (x, a)) := fun h => by
          have := fS_take (v := v) (all := u) (k := k) ha (by rw [hxt, hat, HF.out]; exact h)
          rwa [hxt, hat] at this
        have T2 : Hid (¬ n * a < x * d → fS v u (k + 1) = (n, d)) := fun h => (fS_leave (v := v) (all := u) (k := k) ha (by rw [hxt, hat, HF.out]; exact h)).trans HF.out
        rw [hx] at cv bv
        rw [hua] at cu bu ha
        have ha0 : ((a : Int) == 0) = false := by simp; omega
        have HO : Hid (∀ w, Calls Tryz.prog 51 #[.int .i64 x, .int .i64 d, .int .i64 n, .int .i64 a] w fun e w' => e = .returned (.bool (decide (n * a < x * d))) ∧ RowKit.Below w.heap.size w w') := fun w => over_any x d n a w (by omega) (by omega) (by omega) (by omega)
        have m1 := cell_regrown cv
        have m2 := cell_regrown cu
        clear hx hua hxt hat bf d1 d2
        by_cases hgt : n * a < x * d
        · have HO' : Hid (∀ w, Calls Tryz.prog 51 #[.int .i64 x, .int .i64 d, .int .i64 n, .int .i64 a] w fun e w' => e = .returned (.bool true) ∧ RowKit.Below w.heap.size w w') := fun w => by have := HO.out w; rwa [decide_eq_true hgt] at this
          have G := grown (W := wr) HO'
          clear HO HO'
          go_wp2_with fail
          refine wp_region_quiet_below (by kernel_rfl) (by kernel_rfl) ?_
          repeat (quiet_step (first | (go_at_call 51; exact G.out _ _)))
          refine wpQuiet_nil ?_
          intro _ hw'
          obtain ⟨⟨dq, osq⟩, hw''⟩ := hw'
          subst hw''
          have b2 := below_regrown wr dq osq
          have q1 := at_below b2 (Nat.le_refl _) hres
          have q2 := at_below b2 (Nat.le_refl _) hall
          have q3 := at_below b2 (Nat.le_refl _) hvec
          have cv2 := m1 dq osq
          have cu2 := m2 dq osq
          have y2 : Hid (RowKit.Below w.heap.size w (grow (redrawn wr dq) osq)) := below_from HB.out b2 HB.out.size
          clear b2 m1 m2 G r0 r1 rf0 rf1 rs rn
          generalize grow (redrawn wr dq) osq = w2 at *
          go_wp2_with fail
          refine ⟨⟨k + 1, x, a, rfl, rfl, by simp, by omega, T1.out hgt, q1, q2, q3, y2.out⟩, ?_⟩
          simp only [intOf]; omega
        · have HO' : Hid (∀ w, Calls Tryz.prog 51 #[.int .i64 x, .int .i64 d, .int .i64 n, .int .i64 a] w fun e w' => e = .returned (.bool false) ∧ RowKit.Below w.heap.size w w') := fun w => by have := HO.out w; rwa [decide_eq_false hgt] at this
          have G := grown (W := wr) HO'
          clear HO HO'
          go_wp2_with fail
          refine wp_region_quiet_below (by kernel_rfl) (by kernel_rfl) ?_
          repeat (quiet_step (first | (go_at_call 51; exact G.out _ _)))
          refine wpQuiet_nil ?_
          intro _ hw'
          obtain ⟨⟨dq, osq⟩, hw''⟩ := hw'
          subst hw''
          have b2 := below_regrown wr dq osq
          have q1 := at_below b2 (Nat.le_refl _) hres
          have q2 := at_below b2 (Nat.le_refl _) hall
          have q3 := at_below b2 (Nat.le_refl _) hvec
          have y2 : Hid (RowKit.Below w.heap.size w (grow (redrawn wr dq) osq)) := below_from HB.out b2 HB.out.size
          clear b2 m1 m2 G r0 r1 rf0 rf1 rs rn
          generalize grow (redrawn wr dq) osq = w2 at *
          go_wp2_with fail
          refine ⟨⟨k + 1, n, d, rfl, rfl, by simp, by omega, T2.out hgt, q1, q2, q3, y2.out⟩, ?_⟩
          simp only [intOf]; omega

theorem rshare_any (v u : V) (wt : Int) (w : World) :
    Calls Tryz.prog 29 #[.agg #[.int .i64 v.a, .int .i64 v.b, .int .i64 v.c, .int .i64 v.d], .agg #[.int .i64 u.a, .int .i64 u.b, .int .i64 u.c, .int .i64 u.d], .int .i64 wt] w fun r w' => r = ans (shareR v u wt) ∧ RowKit.Below w.heap.size w w' := by
  unfold shareR
  by_cases h1 : v.ok = true
  · by_cases h2 : u.ok = true
    · rw [if_pos (by rw [h1, h2]; rfl)]
      by_cases hw : wt < 1 ∨ 1000 < wt
      · rw [if_pos hw]
        exact rshare_weight v.a v.b v.c v.d u.a u.b u.c u.d wt w h1 h2 hw
      · rw [if_neg hw]
        obtain ⟨n, rfl⟩ : ∃ n : Nat, wt = n := ⟨wt.toNat, by omega⟩
        exact rshare_good v u n w h1 h2 (by omega) (by omega)
    · rw [if_neg (by simp [h2])]
      exact rshare_bad2 v.a v.b v.c v.d u.a u.b u.c u.d wt w h1 (Bool.eq_false_iff.2 h2)
  · rw [if_neg (by simp [h1])]
    exact rshare_bad1 v.a v.b v.c v.d u.a u.b u.c u.d wt w (Bool.eq_false_iff.2 h1)

end Go.Proofs.YtcgaekaollhmpaaGreat.Vs
