/-
  Pop of an empty heap; the law's plain, the reference's Compare.
-/
import Derived.Test.YtcgaekaollhmpaaGreatPn
import Derived.Test.YtcgaekaollhmpaaGreatRb
namespace Go.Proofs.YtcgaekaollhmpaaGreat
open Go.RowKit Go.Maps

section
variable {w w' : World} {tg tg' : Nat → Tg} {hb g n : Nat} {C : Ct} {S S' : HS}
set_option maxHeartbeats 400000 in
theorem pop_zero (w : World) (H20 : Hid (∀ w1, Below w.heap.size w w1 → Calls Tryz.prog 47 #[.pointer (some ⟨hb, 0, none⟩)] w1 fun e w' => e = .returned (.tuple #[.int .i64 0, .agg #[.int .u64 0, .int .u64 0, .int .i64 0], .int .i64 3]) ∧ Below w1.heap.size w1 w')) : Calls Tryz.prog 27 #[.pointer (some ⟨hb, 0, none⟩)] w fun e w' => e = .returned (.tuple #[.int .i64 0, ktup 0 0 0, .int .i64 3]) ∧ Below w.heap.size w w' := by
  go_enter Tryz.func27, Tryz.ntmps27
  go_upto_region 1 with fail
  have G0 : (w.alloc (.cells #[.int .u64 0, .int .u64 0, .int .i64 0] 72)).heap[w.heap.size]? = some (.cells #[.int .u64 0, .int .u64 0, .int .i64 0] 72 (0, 0)) := new0
  have B0 : Below w.heap.size w (w.alloc (.cells #[.int .u64 0, .int .u64 0, .int .i64 0] 72)) := by go_grown
  generalize w.alloc (.cells #[.int .u64 0, .int .u64 0, .int .i64 0] 72) = W at *
  have H2 := H20.out W B0
  go_wp2_with (go_at_call 47; refine H2.mono ?_; rintro e w1 ⟨rfl, b1⟩; have G1 := at_below b1 (Nat.le_refl _) G0; have B1 := B0.trans (b1.mono B0.size); clear G0 B0 b1)
  have G2 : Hid ((w1.alloc (.cells #[.int .u64 0, .int .u64 0, .int .i64 0] 72)).heap[w.heap.size]? = some (.cells #[.int .u64 0, .int .u64 0, .int .i64 0] 72 (0, 0))) := at_alloc G1
  have B2 : Hid (Below w.heap.size w (w1.alloc (.cells #[.int .u64 0, .int .u64 0, .int .i64 0] 72))) := B1.alloc B1.size _
  obtain ⟨c0, c1, c2⟩ := c3 G2.out
  obtain ⟨f0, f1, f2⟩ := f3 G2.out
  obtain ⟨d0, d1, d2⟩ := c3 (w := w1.alloc (.cells #[.int .u64 0, .int .u64 0, .int .i64 0] 72)) (g := w1.heap.size) new0
  generalize w1.alloc (.cells #[.int .u64 0, .int .u64 0, .int .i64 0] 72) = W2 at *
  clear B1 G1
  go_region
  all_goals go_wp2_with fail
  all_goals refine bodyPost_ret (v := .tuple #[.int .i64 0, ktup 0 0 0, .int .i64 3]) (by rw [results_tct rfl]; go_simp; rfl) rfl ?_
  all_goals exact ⟨rfl, by go_grown; exact B2.out⟩
theorem pop_none (h : Hc w tg hb C g 0 S) : Calls Tryz.prog 27 #[ptr hb] w fun e w' => e = .returned (.tuple #[.int .i64 0, ktup 0 0 0, .int .i64 3]) ∧ Below w.heap.size w w' :=
  pop_zero w fun _ b1 => min_zero fun _ b2 => len_C ((h.keep b1).keep b2)
end
theorem set3 {w : World} {g : Nat} {a b c x y z : Value} {t : TypeId} (h : w.heap[g]? = some (.cells #[a, b, c] t (0, 0))) : (((w.setCell ⟨g, 0, none⟩ x).setCell ⟨g, 1, none⟩ y).setCell ⟨g, 2, none⟩ z).heap[g]? = some (.cells #[x, y, z] t (0, 0)) := setB (setB (setB h x) y) z
/-- the reference's order of keys -/
def rc (a b : K) : Int := let c := (Q.cmpR a.n a.d b.n b.d).1; if c = 0 then ordI a.t b.t else c
theorem rc_kc {a b : K} (ha : a.d ≠ 0) (hb : b.d ≠ 0) : rc a b = kc a b := by
  have h : ¬ (a.d = 0 ∨ b.d = 0) := by rintro (q | q) <;> contradiction
  unfold rc kc Q.cmpR orI
  simp only [if_neg h, ne_eq, ite_not]
end Go.Proofs.YtcgaekaollhmpaaGreat
