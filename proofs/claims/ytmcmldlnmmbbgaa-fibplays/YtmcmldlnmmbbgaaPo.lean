/-
  Pop of an empty heap; the law's plain, the reference's Compare.
-/
import Derived.Test.YtmcmldlnmmbbgaaPn
import Derived.Test.YtmcmldlnmmbbgaaRb
namespace Go.Proofs.Ytmcmldlnmmbbgaa
open Go.RowKit Go.Maps

section
variable {w w' : World} {tg tg' : Nat → Tg} {hb g n : Nat} {C : Ct} {S S' : HS}
set_option maxHeartbeats 400000 in
theorem pop_zero (w : World) (H20 : Hid (∀ w1, Below w.heap.size w w1 → Calls Try.prog 20 #[.pointer (some ⟨hb, 0, none⟩)] w1 fun e w' => e = .returned (.tuple #[.int .i64 0, .agg #[.int .u64 0, .int .u64 0, .int .i64 0], .int .i64 3]) ∧ Below w1.heap.size w1 w')) : Calls Try.prog 15 #[.pointer (some ⟨hb, 0, none⟩)] w fun e w' => e = .returned (.tuple #[.int .i64 0, ktup 0 0 0, .int .i64 3]) ∧ Below w.heap.size w w' := by
  go_enter Try.func15, Try.ntmps15
  go_upto_region 1 with fail
  have G0 : (w.alloc (.cells #[.int .u64 0, .int .u64 0, .int .i64 0] 37)).heap[w.heap.size]? = some (.cells #[.int .u64 0, .int .u64 0, .int .i64 0] 37 (0, 0)) := new0
  have B0 : Below w.heap.size w (w.alloc (.cells #[.int .u64 0, .int .u64 0, .int .i64 0] 37)) := by go_grown
  generalize w.alloc (.cells #[.int .u64 0, .int .u64 0, .int .i64 0] 37) = W at *
  have H2 := H20.out W B0
  go_wp2_with (go_at_call 20; refine H2.mono ?_; rintro e w1 ⟨rfl, b1⟩; have G1 := at_below b1 (Nat.le_refl _) G0; have B1 := B0.trans (b1.mono B0.size); clear G0 B0 b1)
  have G2 : Hid ((w1.alloc (.cells #[.int .u64 0, .int .u64 0, .int .i64 0] 37)).heap[w.heap.size]? = some (.cells #[.int .u64 0, .int .u64 0, .int .i64 0] 37 (0, 0))) := at_alloc G1
  have B2 : Hid (Below w.heap.size w (w1.alloc (.cells #[.int .u64 0, .int .u64 0, .int .i64 0] 37))) := B1.alloc B1.size _
  obtain ⟨c0, c1, c2⟩ := c3 G2.out
  obtain ⟨f0, f1, f2⟩ := f3 G2.out
  obtain ⟨d0, d1, d2⟩ := c3 (w := w1.alloc (.cells #[.int .u64 0, .int .u64 0, .int .i64 0] 37)) (g := w1.heap.size) new0
  generalize w1.alloc (.cells #[.int .u64 0, .int .u64 0, .int .i64 0] 37) = W2 at *
  clear B1 G1
  go_region
  all_goals go_wp2_with fail
  all_goals refine bodyPost_ret (v := .tuple #[.int .i64 0, ktup 0 0 0, .int .i64 3]) (by rw [results_tct rfl]; go_simp; rfl) rfl ?_
  all_goals exact ⟨rfl, by go_grown; exact B2.out⟩
theorem pop_none (h : Hc w tg hb C g 0 S) : Calls Try.prog 15 #[ptr hb] w fun e w' => e = .returned (.tuple #[.int .i64 0, ktup 0 0 0, .int .i64 3]) ∧ Below w.heap.size w w' :=
  pop_zero w fun _ b1 => min_zero fun _ b2 => len_C ((h.keep b1).keep b2)
end
theorem set3 {w : World} {g : Nat} {a b c x y z : Value} {t : TypeId} (h : w.heap[g]? = some (.cells #[a, b, c] t (0, 0))) : (((w.setCell ⟨g, 0, none⟩ x).setCell ⟨g, 1, none⟩ y).setCell ⟨g, 2, none⟩ z).heap[g]? = some (.cells #[x, y, z] t (0, 0)) := setB (setB (setB h x) y) z
set_option maxHeartbeats 400000 in
theorem plain_any (n d : Nat) (t : Int) (w : World) : Calls Try.prog 17 #[.agg #[.int .u64 n, .int .u64 d, .int .i64 t]] w fun e w' => e = .returned (.agg #[.int .u64 n, .int .u64 d, .int .i64 t]) ∧ Below w.heap.size w w' := by
  go_enter Try.func17, Try.ntmps17
  go_wp2_with fail
  go_returns
  exact ⟨rfl, by go_grown⟩
/-- the reference's order of keys -/
def rc (a b : K) : Int := let c := (Q.cmpR a.n a.d b.n b.d).1; if c = 0 then ordI a.t b.t else c
theorem rc_kc {a b : K} (ha : a.d ≠ 0) (hb : b.d ≠ 0) : rc a b = kc a b := by
  have h : ¬ (a.d = 0 ∨ b.d = 0) := by rintro (q | q) <;> contradiction
  unfold rc kc Q.cmpR orI
  simp only [if_neg h, ne_eq, ite_not]
set_option maxHeartbeats 1000000 in
theorem rcompare_raw (a b : K) (o z r : Int) (w : World) (hr : Hid ((if o = 0 then ordI a.t b.t else o) = r)) (H35 : Hid (∀ w, Calls Try.prog 35 #[.agg #[.int .u64 a.n, .int .u64 a.d], .agg #[.int .u64 b.n, .int .u64 b.d]] w fun e w' => e = .returned (.tuple #[.int .i64 o, .int .i64 z]) ∧ Below w.heap.size w w')) :
    Calls Try.prog 16 #[.agg #[.int .u64 a.n, .int .u64 a.d, .int .i64 a.t], .agg #[.int .u64 b.n, .int .u64 b.d, .int .i64 b.t]] w fun e w' => e = .returned (.int .i64 r) ∧ Below w.heap.size w w' := by
  go_enter Try.func16, Try.ntmps16
  go_upto_region 1 with fail
  have G0 : ((w.alloc (.cells #[.int .u64 a.n, .int .u64 a.d, .int .i64 a.t] 49)).alloc (.cells #[.int .u64 b.n, .int .u64 b.d, .int .i64 b.t] 49)).heap[w.heap.size]? = some (.cells #[.int .u64 a.n, .int .u64 a.d, .int .i64 a.t] 49 (0, 0)) := first0
  have G1 : ((w.alloc (.cells #[.int .u64 a.n, .int .u64 a.d, .int .i64 a.t] 49)).alloc (.cells #[.int .u64 b.n, .int .u64 b.d, .int .i64 b.t] 49)).heap[w.heap.size + 1]? = some (.cells #[.int .u64 b.n, .int .u64 b.d, .int .i64 b.t] 49 (0, 0)) := first1
  have B0 : Below w.heap.size w ((w.alloc (.cells #[.int .u64 a.n, .int .u64 a.d, .int .i64 a.t] 49)).alloc (.cells #[.int .u64 b.n, .int .u64 b.d, .int .i64 b.t] 49)) := by go_grown
  generalize (w.alloc (.cells #[.int .u64 a.n, .int .u64 a.d, .int .i64 a.t] 49)).alloc (.cells #[.int .u64 b.n, .int .u64 b.d, .int .i64 b.t] 49) = W at *
  obtain ⟨c0, c1, c2⟩ := c3 G0
  obtain ⟨d0, d1, d2⟩ := c3 G1
  go_upto_region 2 with (go_at_call 35; refine (H35.out _).mono ?_; rintro e w1 ⟨rfl, b1⟩; have K0 := at_below b1 (Nat.le_refl _) G0; have K1 := at_below b1 (Nat.le_refl _) G1; have B1 : Hid (Below w.heap.size w w1) := B0.trans (b1.mono B0.size); clear G0 G1 B0 b1 c0 c1 c2 d0 d1 d2)
  obtain ⟨c0, c1, c2⟩ := c3 K0
  obtain ⟨d0, d1, d2⟩ := c3 K1
  clear K0 K1
  by_cases ho : o = 0
  · subst ho
    have hr2 : Hid (ordI a.t b.t = r) := by have := hr.out; rw [if_pos rfl] at this; exact this
    clear hr
    by_cases h1 : a.t < b.t
    · have e0 : (a.t != b.t) = true := by simp; omega
      have e1 : Hid (r = -1) := by have := hr2.out; unfold ordI at this; rw [if_pos h1] at this; exact this.symm
      go_wp2_with fail
      go_ret
      exact ⟨by cases e1.out; rfl, B1.out⟩
    · by_cases h2 : b.t < a.t
      · have e0 : (a.t != b.t) = true := by simp; omega
        have e1 : Hid (r = 1) := by have := hr2.out; unfold ordI at this; rw [if_neg h1, if_pos h2] at this; exact this.symm
        go_wp2_with fail
        go_ret
        exact ⟨by cases e1.out; rfl, B1.out⟩
      · have e0 : (a.t != b.t) = false := by simp; omega
        have e1 : Hid (r = 0) := by have := hr2.out; unfold ordI at this; rw [if_neg h1, if_neg h2] at this; exact this.symm
        go_wp2_with fail
        go_ret
        exact ⟨by cases e1.out; rfl, B1.out⟩
  · have e1 : Hid (r = o) := by have := hr.out; rw [if_neg ho] at this; exact this.symm
    clear hr
    have e0 : (o == 0) = false := by simpa using ho
    go_wp2_with fail
    go_ret
    exact ⟨by cases e1.out; rfl, B1.out⟩
theorem rcompare_any (a b : K) (w : World) (ha : a.n < 18446744073709551616) (ha' : a.d < 18446744073709551616) (hb : b.n < 18446744073709551616) (hb' : b.d < 18446744073709551616) :
    Calls Try.prog 16 #[.agg #[.int .u64 a.n, .int .u64 a.d, .int .i64 a.t], .agg #[.int .u64 b.n, .int .u64 b.d, .int .i64 b.t]] w fun e w' => e = .returned (.int .i64 (rc a b)) ∧ Below w.heap.size w w' :=
  rcompare_raw a b _ _ (rc a b) w rfl fun w => rcmp_any a.n a.d b.n b.d w ha ha' hb hb'
end Go.Proofs.Ytmcmldlnmmbbgaa
