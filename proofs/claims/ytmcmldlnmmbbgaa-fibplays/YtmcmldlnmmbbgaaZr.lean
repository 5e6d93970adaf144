/-
  FibPlays: step, Min, Pop, Get. FibPlays: step, Decrease, Delete, Meld. FibPlays: step of any kind; drained. FibPlays' law: the run. FibPlays' law.
-/
import Derived.Test.YtmcmldlnmmbbgaaZm
import Derived.Test.YtmcmldlnmmbbgaaPq
import Derived.Deep.LoopGhost
import Derived.Test.YtmcmldlnmmbbgaaMd
namespace Go.Proofs.Ytmcmldlnmmbbgaa
open Go.RowKit Go.Maps

section
variable {w0 : Fx} {w : World} {hp rp : Nat → Nat} {L : Nat → List RE} {h x : Int} {k : K}
set_option maxHeartbeats 4000000 in
set_option maxRecDepth 100000 in
theorem step_2 (hF : Hid (Ft w0 w hp rp L NoP)) (_hk : Hid (Kw k)) (_hx : Hid ((Lit.int .i64 x).wf = true)) (hn : Hid (tot L < 1000)) : Calls Try.prog 10 #[.agg #[.pointer (some ⟨hp 0, 0, none⟩), .pointer (some ⟨hp 1, 0, none⟩), .pointer (some ⟨hp 2, 0, none⟩)], .agg #[.pointer (some ⟨rp 0, 0, none⟩), .pointer (some ⟨rp 1, 0, none⟩), .pointer (some ⟨rp 2, 0, none⟩)], .agg #[.int .i64 2, .int .i64 h, .int .i64 x, .int .u64 k.n, .int .u64 k.d, .int .i64 k.t]] w fun e w' => e = .returned (.bool true) ∧ Sr3 w0 w' hp rp L := by
  have HB0 : Hid (Bx w0 (((w.alloc (.cells (p3 hp) 26)).alloc (.cells (p3 rp) 31)).alloc (.cells (ob 2 h x k) 39)) hp rp L w.heap.size 2 h x k) := bx_new hF.out 2 h x k
  clear hF
  unfold p3 ob at HB0
  go_enter Try.func10, Try.ntmps10
  go_upto_region 1 with fail
  generalize ((w.alloc (.cells #[.pointer (some ⟨hp 0, 0, none⟩), .pointer (some ⟨hp 1, 0, none⟩), .pointer (some ⟨hp 2, 0, none⟩)] 26)).alloc (.cells #[.pointer (some ⟨rp 0, 0, none⟩), .pointer (some ⟨rp 1, 0, none⟩), .pointer (some ⟨rp 2, 0, none⟩)] 31)).alloc (.cells #[.int .i64 2, .int .i64 h, .int .i64 x, .int .u64 k.n, .int .u64 k.d, .int .i64 k.t] 39) = W0 at *
  generalize w.heap.size = b at *
  obtain ⟨x0, x1, x2, x3, x4, x5⟩ := c6 HB0.out.z2
  go_upto_region 2 with fail
  obtain ⟨i, hi, ei⟩ := idx3 h
  rw [ei]
  clear ei x0 x1 x2 x3 x4 x5
  have HI : Hid (i < 3) := hi
  have y0 := cp3 HB0.out.z0 hi
  have y1 := cp3 HB0.out.z1 hi
  have i0 : 0 ≤ (i : Int) := by omega
  have i3 : (i : Int) < 3 := by omega
  have i4 : ((i : Int)).toNat = i := by omega
  clear hi
  go_quiet (fail)
  have HB : Hid (Bx w0 (W0.drewN nq) hp rp L b 2 h x k) := HB0.out.below (below_drewN (Below.refl _ W0) nq)
  clear y0 y1 HB0
  generalize W0.drewN nq = W at *
  obtain ⟨x0, x1, x2, x3, x4, x5⟩ := c6 HB.out.z2
  obtain ⟨y, k1, ee, hM, hR⟩ := st2 HB.out.t HI.out hn.out
  have HM := hM W (Below.refl _ W)
  have HR : Hid (∀ w1, Below W.heap.size W w1 → Calls Try.prog 24 #[.pointer (some ⟨rp i, 0, none⟩)] w1 fun e w2 => e = .returned (.tuple #[.int .i64 y, .agg #[.int .u64 k1.n, .int .u64 k1.d, .int .i64 k1.t], .int .i64 ee]) ∧ Below w1.heap.size w1 w2) := hR
  clear hM hR
  go_upto_region 10 with (go_at_call 20; refine HM.mono ?_; rintro e w2 ⟨rfl, b2⟩)
  clear x0 x1 x2 x3 x4 x5
  have B3 : Hid (Below W.heap.size W (w2.alloc (.cells #[.int .u64 k1.n, .int .u64 k1.d, .int .i64 k1.t] 37))) := b2.alloc b2.size _
  have Z3 : Hid ((w2.alloc (.cells #[.int .u64 k1.n, .int .u64 k1.d, .int .i64 k1.t] 37)).heap[w2.heap.size]? = some (.cells #[.int .u64 k1.n, .int .u64 k1.d, .int .i64 k1.t] 37 (0, 0))) := new0
  generalize w2.alloc (.cells #[.int .u64 k1.n, .int .u64 k1.d, .int .i64 k1.t] 37) = W3 at *
  generalize w2.heap.size = kb at *
  clear b2 HM
  have H24 := HR.out W3 B3.out
  go_upto_region 11 with (go_at_call 24; refine H24.mono ?_; rintro e w4 ⟨rfl, b4⟩)
  have B5 : Hid (Below W.heap.size W (w4.alloc (.cells #[.int .u64 k1.n, .int .u64 k1.d, .int .i64 k1.t] 49))) := (B3.out.trans (b4.mono B3.out.size)).alloc (Nat.le_trans B3.out.size b4.size) _
  obtain ⟨y0, y1, y2⟩ := c3 (at_alloc (o' := .cells #[.int .u64 k1.n, .int .u64 k1.d, .int .i64 k1.t] 49) (at_below b4 (Nat.le_refl _) Z3.out))
  obtain ⟨z0, z1, z2⟩ := c3 (w := w4.alloc (.cells #[.int .u64 k1.n, .int .u64 k1.d, .int .i64 k1.t] 49)) (g := w4.heap.size) new0
  generalize w4.alloc (.cells #[.int .u64 k1.n, .int .u64 k1.d, .int .i64 k1.t] 49) = W5 at *
  generalize w4.heap.size = kb2 at *
  clear b4 H24 B3 Z3 HR
  have hc6 := And.intro z0 (And.intro z1 (And.intro z2 (And.intro y0 (And.intro y1 y2))))
  have H17 : Hid (∀ w, Calls Try.prog 17 #[.agg #[.int .u64 k1.n, .int .u64 k1.d, .int .i64 k1.t]] w fun e w' => e = .returned (.agg #[.int .u64 k1.n, .int .u64 k1.d, .int .i64 k1.t]) ∧ Below w.heap.size w w') := plain_any k1.n k1.d k1.t
  go_region_held3 (fun w' : World => w'.cell? ⟨kb2, 0, none⟩ = some (.int .u64 k1.n) ∧ w'.cell? ⟨kb2, 1, none⟩ = some (.int .u64 k1.d) ∧ w'.cell? ⟨kb2, 2, none⟩ = some (.int .i64 k1.t) ∧ w'.cell? ⟨kb, 0, none⟩ = some (.int .u64 k1.n) ∧ w'.cell? ⟨kb, 1, none⟩ = some (.int .u64 k1.d) ∧ w'.cell? ⟨kb, 2, none⟩ = some (.int .i64 k1.t)) (repeat' (first | (with_reducible assumption) | (with_reducible refine keep6 b7 ?_) | (with_reducible refine keep1c' b7 ?_) | go_keep)) (first | (go_at_call 17; refine (H17.out _).mono ?_; rintro e w7 ⟨rfl, b7⟩; have y7 := below_from (B := W5.heap.size) (w := W5) (by go_grown) b7 (by simp)))
  all_goals go_wp2_with fail
  all_goals go_ret
  all_goals exact ⟨by simp, L, by omega, F3e.less (F3e.below HB.out.t (B5.out.trans (y7.mono B5.out.size))) nofun⟩
set_option maxHeartbeats 4000000 in
set_option maxRecDepth 100000 in
theorem step_3 (hF : Hid (Ft w0 w hp rp L NoP)) (_hk : Hid (Kw k)) (_hx : Hid ((Lit.int .i64 x).wf = true)) (hn : Hid (tot L < 1000)) : Calls Try.prog 10 #[.agg #[.pointer (some ⟨hp 0, 0, none⟩), .pointer (some ⟨hp 1, 0, none⟩), .pointer (some ⟨hp 2, 0, none⟩)], .agg #[.pointer (some ⟨rp 0, 0, none⟩), .pointer (some ⟨rp 1, 0, none⟩), .pointer (some ⟨rp 2, 0, none⟩)], .agg #[.int .i64 3, .int .i64 h, .int .i64 x, .int .u64 k.n, .int .u64 k.d, .int .i64 k.t]] w fun e w' => e = .returned (.bool true) ∧ Sr3 w0 w' hp rp L := by
  have HB0 : Hid (Bx w0 (((w.alloc (.cells (p3 hp) 26)).alloc (.cells (p3 rp) 31)).alloc (.cells (ob 3 h x k) 39)) hp rp L w.heap.size 3 h x k) := bx_new hF.out 3 h x k
  clear hF
  unfold p3 ob at HB0
  go_enter Try.func10, Try.ntmps10
  go_upto_region 1 with fail
  generalize ((w.alloc (.cells #[.pointer (some ⟨hp 0, 0, none⟩), .pointer (some ⟨hp 1, 0, none⟩), .pointer (some ⟨hp 2, 0, none⟩)] 26)).alloc (.cells #[.pointer (some ⟨rp 0, 0, none⟩), .pointer (some ⟨rp 1, 0, none⟩), .pointer (some ⟨rp 2, 0, none⟩)] 31)).alloc (.cells #[.int .i64 3, .int .i64 h, .int .i64 x, .int .u64 k.n, .int .u64 k.d, .int .i64 k.t] 39) = W0 at *
  generalize w.heap.size = b at *
  obtain ⟨x0, x1, x2, x3, x4, x5⟩ := c6 HB0.out.z2
  go_upto_region 2 with fail
  obtain ⟨i, hi, ei⟩ := idx3 h
  rw [ei]
  clear ei x0 x1 x2 x3 x4 x5
  have HI : Hid (i < 3) := hi
  have y0 := cp3 HB0.out.z0 hi
  have y1 := cp3 HB0.out.z1 hi
  have i0 : 0 ≤ (i : Int) := by omega
  have i3 : (i : Int) < 3 := by omega
  have i4 : ((i : Int)).toNat = i := by omega
  clear hi
  go_quiet (fail)
  have HB : Hid (Bx w0 (W0.drewN nq) hp rp L b 3 h x k) := HB0.out.below (below_drewN (Below.refl _ W0) nq)
  clear y0 y1 HB0
  generalize W0.drewN nq = W at *
  obtain ⟨x0, x1, x2, x3, x4, x5⟩ := c6 HB.out.z2
  obtain ⟨y, k1, ee, L', hL', _, _, hpop⟩ := st3 HB.out.t HI.out hn.out
  have HL : Hid (tot L' ≤ tot L) := hL'
  have HP : Hid (Calls Try.prog 15 #[.pointer (some ⟨hp i, 0, none⟩)] W fun e w2 => e = .returned (.tuple #[.int .i64 y, .agg #[.int .u64 k1.n, .int .u64 k1.d, .int .i64 k1.t], .int .i64 ee]) ∧ Hid (∀ w3, w3 = w2.alloc (.cells (ky3 k1) 37) → Calls Try.prog 25 #[.pointer (some ⟨rp i, 0, none⟩)] w3 fun e w4 => e = .returned (.tuple #[.int .i64 y, .agg #[.int .u64 k1.n, .int .u64 k1.d, .int .i64 k1.t], .int .i64 ee]) ∧ Hid (w4.heap[w2.heap.size]? = some (.cells (ky3 k1) 37 (0, 0)) ∧ Ft w0 w4 hp rp L' NoP))) := hpop
  clear hpop HB hL'
  go_upto_region 14 with (go_at_call 15; refine HP.out.mono ?_; first | rintro e w2 rfl h2 | rintro e w2 ⟨rfl, h2⟩)
  clear x0 x1 x2 x3 x4 x5
  have HQ : Hid (Calls Try.prog 25 #[.pointer (some ⟨rp i, 0, none⟩)] (w2.alloc (.cells #[.int .u64 k1.n, .int .u64 k1.d, .int .i64 k1.t] 37)) fun e w4 => e = .returned (.tuple #[.int .i64 y, .agg #[.int .u64 k1.n, .int .u64 k1.d, .int .i64 k1.t], .int .i64 ee]) ∧ Hid (w4.heap[w2.heap.size]? = some (.cells (ky3 k1) 37 (0, 0)) ∧ Ft w0 w4 hp rp L' NoP)) := h2.out _ rfl
  generalize w2.alloc (.cells #[.int .u64 k1.n, .int .u64 k1.d, .int .i64 k1.t] 37) = W3 at *
  generalize w2.heap.size = kb at *
  clear HP h2
  go_upto_region 15 with (go_at_call 25; refine HQ.out.mono ?_; first | rintro e w4 rfl h4 | rintro e w4 ⟨rfl, h4⟩)
  have T5 : Hid (Ft w0 (w4.alloc (.cells #[.int .u64 k1.n, .int .u64 k1.d, .int .i64 k1.t] 49)) hp rp L' NoP) := F3e.less (F3e.box h4.out.2 _) nofun
  obtain ⟨y0, y1, y2⟩ := c3 (at_alloc (o' := .cells #[.int .u64 k1.n, .int .u64 k1.d, .int .i64 k1.t] 49) h4.out.1)
  obtain ⟨z0, z1, z2⟩ := c3 (w := w4.alloc (.cells #[.int .u64 k1.n, .int .u64 k1.d, .int .i64 k1.t] 49)) (g := w4.heap.size) new0
  generalize w4.alloc (.cells #[.int .u64 k1.n, .int .u64 k1.d, .int .i64 k1.t] 49) = W5 at *
  generalize w4.heap.size = kb2 at *
  clear h4 HQ
  have hc6 := And.intro z0 (And.intro z1 (And.intro z2 (And.intro y0 (And.intro y1 y2))))
  have H17 : Hid (∀ w, Calls Try.prog 17 #[.agg #[.int .u64 k1.n, .int .u64 k1.d, .int .i64 k1.t]] w fun e w' => e = .returned (.agg #[.int .u64 k1.n, .int .u64 k1.d, .int .i64 k1.t]) ∧ Below w.heap.size w w') := plain_any k1.n k1.d k1.t
  go_region_held3 (fun w' : World => w'.cell? ⟨kb2, 0, none⟩ = some (.int .u64 k1.n) ∧ w'.cell? ⟨kb2, 1, none⟩ = some (.int .u64 k1.d) ∧ w'.cell? ⟨kb2, 2, none⟩ = some (.int .i64 k1.t) ∧ w'.cell? ⟨kb, 0, none⟩ = some (.int .u64 k1.n) ∧ w'.cell? ⟨kb, 1, none⟩ = some (.int .u64 k1.d) ∧ w'.cell? ⟨kb, 2, none⟩ = some (.int .i64 k1.t)) (repeat' (first | (with_reducible assumption) | (with_reducible refine keep6 b7 ?_) | (with_reducible refine keep1c' b7 ?_) | go_keep)) (first | (go_at_call 17; refine (H17.out _).mono ?_; rintro e w7 ⟨rfl, b7⟩; have y7 := below_from (B := W5.heap.size) (w := W5) (by go_grown) b7 (by simp)))
  all_goals go_wp2_with fail
  all_goals go_ret
  all_goals exact ⟨by simp, L', by have := HL.out; omega, F3e.below T5.out y7⟩
set_option maxHeartbeats 4000000 in
set_option maxRecDepth 100000 in
theorem step_6 (hF : Hid (Ft w0 w hp rp L NoP)) (_hk : Hid (Kw k)) (hx : Hid ((Lit.int .i64 x).wf = true)) (_hn : Hid (tot L < 1000)) : Calls Try.prog 10 #[.agg #[.pointer (some ⟨hp 0, 0, none⟩), .pointer (some ⟨hp 1, 0, none⟩), .pointer (some ⟨hp 2, 0, none⟩)], .agg #[.pointer (some ⟨rp 0, 0, none⟩), .pointer (some ⟨rp 1, 0, none⟩), .pointer (some ⟨rp 2, 0, none⟩)], .agg #[.int .i64 6, .int .i64 h, .int .i64 x, .int .u64 k.n, .int .u64 k.d, .int .i64 k.t]] w fun e w' => e = .returned (.bool true) ∧ Sr3 w0 w' hp rp L := by
  have HB0 : Hid (Bx w0 (((w.alloc (.cells (p3 hp) 26)).alloc (.cells (p3 rp) 31)).alloc (.cells (ob 6 h x k) 39)) hp rp L w.heap.size 6 h x k) := bx_new hF.out 6 h x k
  clear hF
  unfold p3 ob at HB0
  go_enter Try.func10, Try.ntmps10
  go_upto_region 1 with fail
  generalize ((w.alloc (.cells #[.pointer (some ⟨hp 0, 0, none⟩), .pointer (some ⟨hp 1, 0, none⟩), .pointer (some ⟨hp 2, 0, none⟩)] 26)).alloc (.cells #[.pointer (some ⟨rp 0, 0, none⟩), .pointer (some ⟨rp 1, 0, none⟩), .pointer (some ⟨rp 2, 0, none⟩)] 31)).alloc (.cells #[.int .i64 6, .int .i64 h, .int .i64 x, .int .u64 k.n, .int .u64 k.d, .int .i64 k.t] 39) = W0 at *
  generalize w.heap.size = b at *
  obtain ⟨x0, x1, x2, x3, x4, x5⟩ := c6 HB0.out.z2
  go_upto_region 2 with fail
  obtain ⟨i, hi, ei⟩ := idx3 h
  rw [ei]
  clear ei x0 x1 x2 x3 x4 x5
  have HI : Hid (i < 3) := hi
  have y0 := cp3 HB0.out.z0 hi
  have y1 := cp3 HB0.out.z1 hi
  have i0 : 0 ≤ (i : Int) := by omega
  have i3 : (i : Int) < 3 := by omega
  have i4 : ((i : Int)).toNat = i := by omega
  clear hi
  go_quiet (fail)
  have HB : Hid (Bx w0 (W0.drewN nq) hp rp L b 6 h x k) := HB0.out.below (below_drewN (Below.refl _ W0) nq)
  clear y0 y1 HB0
  generalize W0.drewN nq = W at *
  obtain ⟨x0, x1, x2, x3, x4, x5⟩ := c6 HB.out.z2
  obtain ⟨k1, ee, hM, hR⟩ := st6 HB.out.t HI.out hx.out
  have HM := hM W (Below.refl _ W)
  have HR : Hid (∀ w1, Below W.heap.size W w1 → Calls Try.prog 28 #[.pointer (some ⟨rp i, 0, none⟩), .int .i64 x] w1 fun e w2 => e = .returned (.tuple #[.agg #[.int .u64 k1.n, .int .u64 k1.d, .int .i64 k1.t], .int .i64 ee]) ∧ Below w1.heap.size w1 w2) := hR
  clear hM hR hx
  go_upto_region 22 with (go_at_call 18; refine HM.mono ?_; rintro e w2 ⟨rfl, b2⟩)
  clear x0 x1 x2 x3 x4 x5
  have B3 : Hid (Below W.heap.size W (w2.alloc (.cells #[.int .u64 k1.n, .int .u64 k1.d, .int .i64 k1.t] 37))) := b2.alloc b2.size _
  have Z3 : Hid ((w2.alloc (.cells #[.int .u64 k1.n, .int .u64 k1.d, .int .i64 k1.t] 37)).heap[w2.heap.size]? = some (.cells #[.int .u64 k1.n, .int .u64 k1.d, .int .i64 k1.t] 37 (0, 0))) := new0
  generalize w2.alloc (.cells #[.int .u64 k1.n, .int .u64 k1.d, .int .i64 k1.t] 37) = W3 at *
  generalize w2.heap.size = kb at *
  clear b2 HM
  have H24 := HR.out W3 B3.out
  obtain ⟨x0, x1, x2, x3, x4, x5⟩ := c6 (HB.out.below B3.out).z2
  go_upto_region 23 with (go_at_call 28; refine H24.mono ?_; rintro e w4 ⟨rfl, b4⟩)
  clear x0 x1 x2 x3 x4 x5
  have B5 : Hid (Below W.heap.size W (w4.alloc (.cells #[.int .u64 k1.n, .int .u64 k1.d, .int .i64 k1.t] 49))) := (B3.out.trans (b4.mono B3.out.size)).alloc (Nat.le_trans B3.out.size b4.size) _
  obtain ⟨y0, y1, y2⟩ := c3 (at_alloc (o' := .cells #[.int .u64 k1.n, .int .u64 k1.d, .int .i64 k1.t] 49) (at_below b4 (Nat.le_refl _) Z3.out))
  obtain ⟨z0, z1, z2⟩ := c3 (w := w4.alloc (.cells #[.int .u64 k1.n, .int .u64 k1.d, .int .i64 k1.t] 49)) (g := w4.heap.size) new0
  generalize w4.alloc (.cells #[.int .u64 k1.n, .int .u64 k1.d, .int .i64 k1.t] 49) = W5 at *
  generalize w4.heap.size = kb2 at *
  clear b4 H24 B3 Z3 HR
  have hc6 := And.intro z0 (And.intro z1 (And.intro z2 (And.intro y0 (And.intro y1 y2))))
  have H17 : Hid (∀ w, Calls Try.prog 17 #[.agg #[.int .u64 k1.n, .int .u64 k1.d, .int .i64 k1.t]] w fun e w' => e = .returned (.agg #[.int .u64 k1.n, .int .u64 k1.d, .int .i64 k1.t]) ∧ Below w.heap.size w w') := plain_any k1.n k1.d k1.t
  go_region_held3 (fun w' : World => w'.cell? ⟨kb2, 0, none⟩ = some (.int .u64 k1.n) ∧ w'.cell? ⟨kb2, 1, none⟩ = some (.int .u64 k1.d) ∧ w'.cell? ⟨kb2, 2, none⟩ = some (.int .i64 k1.t) ∧ w'.cell? ⟨kb, 0, none⟩ = some (.int .u64 k1.n) ∧ w'.cell? ⟨kb, 1, none⟩ = some (.int .u64 k1.d) ∧ w'.cell? ⟨kb, 2, none⟩ = some (.int .i64 k1.t)) (repeat' (first | (with_reducible assumption) | (with_reducible refine keep6 b7 ?_) | (with_reducible refine keep1c' b7 ?_) | go_keep)) (first | (go_at_call 17; refine (H17.out _).mono ?_; rintro e w7 ⟨rfl, b7⟩; have y7 := below_from (B := W5.heap.size) (w := W5) (by go_grown) b7 (by simp)))
  all_goals go_wp2_with fail
  all_goals go_ret
  all_goals exact ⟨by simp, L, by omega, F3e.less (F3e.below HB.out.t (B5.out.trans (y7.mono B5.out.size))) nofun⟩
end
end Go.Proofs.Ytmcmldlnmmbbgaa

namespace Go.Proofs.Ytmcmldlnmmbbgaa
open Go.RowKit Go.Maps

section
variable {w0 : Fx} {w : World} {hp rp : Nat → Nat} {L : Nat → List RE} {h x : Int} {k : K}
set_option maxHeartbeats 4000000 in
set_option maxRecDepth 100000 in
theorem step_4 (hF : Hid (Ft w0 w hp rp L NoP)) (hk : Hid (Kw k)) (hx : Hid ((Lit.int .i64 x).wf = true)) (hn : Hid (tot L < 1000)) : Calls Try.prog 10 #[.agg #[.pointer (some ⟨hp 0, 0, none⟩), .pointer (some ⟨hp 1, 0, none⟩), .pointer (some ⟨hp 2, 0, none⟩)], .agg #[.pointer (some ⟨rp 0, 0, none⟩), .pointer (some ⟨rp 1, 0, none⟩), .pointer (some ⟨rp 2, 0, none⟩)], .agg #[.int .i64 4, .int .i64 h, .int .i64 x, .int .u64 k.n, .int .u64 k.d, .int .i64 k.t]] w fun e w' => e = .returned (.bool true) ∧ Sr3 w0 w' hp rp L := by
  have HB0 : Hid (Bx w0 (((w.alloc (.cells (p3 hp) 26)).alloc (.cells (p3 rp) 31)).alloc (.cells (ob 4 h x k) 39)) hp rp L w.heap.size 4 h x k) := bx_new hF.out 4 h x k
  clear hF
  unfold p3 ob at HB0
  go_enter Try.func10, Try.ntmps10
  go_upto_region 1 with fail
  generalize ((w.alloc (.cells #[.pointer (some ⟨hp 0, 0, none⟩), .pointer (some ⟨hp 1, 0, none⟩), .pointer (some ⟨hp 2, 0, none⟩)] 26)).alloc (.cells #[.pointer (some ⟨rp 0, 0, none⟩), .pointer (some ⟨rp 1, 0, none⟩), .pointer (some ⟨rp 2, 0, none⟩)] 31)).alloc (.cells #[.int .i64 4, .int .i64 h, .int .i64 x, .int .u64 k.n, .int .u64 k.d, .int .i64 k.t] 39) = W0 at *
  generalize w.heap.size = b at *
  obtain ⟨x0, x1, x2, x3, x4, x5⟩ := c6 HB0.out.z2
  go_upto_region 2 with fail
  obtain ⟨i, hi, ei⟩ := idx3 h
  rw [ei]
  clear ei x0 x1 x2 x3 x4 x5
  have HI : Hid (i < 3) := hi
  have y0 := cp3 HB0.out.z0 hi
  have y1 := cp3 HB0.out.z1 hi
  have i0 : 0 ≤ (i : Int) := by omega
  have i3 : (i : Int) < 3 := by omega
  have i4 : ((i : Int)).toNat = i := by omega
  clear hi
  go_quiet (fail)
  have HB : Hid (Bx w0 (W0.drewN nq) hp rp L b 4 h x k) := HB0.out.below (below_drewN (Below.refl _ W0) nq)
  clear y0 y1 HB0
  generalize W0.drewN nq = W at *
  obtain ⟨x0, x1, x2, x3, x4, x5⟩ := c6 HB.out.z2
  obtain ⟨ee, L', hL', hc⟩ := st4 (HB.out.below (below_dr W)).t HI.out hk.out hx.out hn.out
  have HL : Hid (tot L' ≤ tot L) := hL'
  have ZB : Hid (W.drew.heap[b + 1 + 1]? = some (.cells (ob 4 h x k) 39 (0, 0))) := (HB.out.below (below_dr W)).z2
  have H19 : Hid (Calls Try.prog 19 #[.pointer (some ⟨hp i, 0, none⟩), .int .i64 x, .agg #[.int .u64 k.n, .int .u64 k.d, .int .i64 k.t]] W.drew fun e w2 => e = .returned (.int .i64 ee) ∧ Hid (Kt (fun j => (j = b ∨ j = b + 1) ∨ j = b + 1 + 1) W.drew w2 ∧ ∀ w3, Below w2.heap.size w2 w3 → Calls Try.prog 26 #[.pointer (some ⟨rp i, 0, none⟩), .int .i64 x, .agg #[.int .u64 k.n, .int .u64 k.d, .int .i64 k.t]] w3 fun e w4 => e = .returned (.int .i64 ee) ∧ Hid (Kt (fun j => (j = b ∨ j = b + 1) ∨ j = b + 1 + 1) w3 w4 ∧ Ft w0 w4 hp rp L' NoP))) := hc
  clear hc hL' hk hx HB
  have H17 : Hid (∀ w, Calls Try.prog 17 #[.agg #[.int .u64 k.n, .int .u64 k.d, .int .i64 k.t]] w fun e w' => e = .returned (.agg #[.int .u64 k.n, .int .u64 k.d, .int .i64 k.t]) ∧ Below w.heap.size w w') := plain_any k.n k.d k.t
  go_upto_region 17 with fail
  go_region_held3 (fun w' : World => w'.cell? ⟨b + 1 + 1, 2, none⟩ = some (.int .i64 x) ∧ w'.cell? ⟨b + 1 + 1, 3, none⟩ = some (.int .u64 k.n) ∧ w'.cell? ⟨b + 1 + 1, 4, none⟩ = some (.int .u64 k.d) ∧ w'.cell? ⟨b + 1 + 1, 5, none⟩ = some (.int .i64 k.t)) (first | (with_reducible assumption) | (with_reducible exact ⟨t2, t3, t4, t5⟩) | (with_reducible exact ⟨z2, z3, z4, z5⟩) | (with_reducible exact ⟨y2, y3, y4, y5⟩) | (with_reducible exact ⟨x2, x3, x4, x5⟩) | (exact ⟨x2, x3, x4, x5⟩) | go_keep) (first | (go_at_call 19; refine H19.out.mono ?_; rintro e w2 ⟨rfl, h2⟩; have ZB2 : Hid (w2.heap[b + 1 + 1]? = some (.cells (ob 4 h x k) 39 (0, 0))) := h2.out.1.at (.inr rfl) ZB.out; obtain ⟨y0, y1, y2, y3, y4, y5⟩ := c6 ZB2.out; have H26 : Hid (∀ w3, Below w2.heap.size w2 w3 → Calls Try.prog 26 #[.pointer (some ⟨rp i, 0, none⟩), .int .i64 x, .agg #[.int .u64 k.n, .int .u64 k.d, .int .i64 k.t]] w3 fun e w4 => e = .returned (.int .i64 ee) ∧ Hid (Kt (fun j => (j = b ∨ j = b + 1) ∨ j = b + 1 + 1) w3 w4 ∧ Ft w0 w4 hp rp L' NoP)) := h2.out.2; clear h2) | (go_at_call 17; refine (H17.out _).mono ?_; rintro e w3 ⟨rfl, b3⟩; have ZB3 : Hid (w3.heap[b + 1 + 1]? = some (.cells (ob 4 h x k) 39 (0, 0))) := at_below b3 (Nat.le_refl _) ZB2.out; obtain ⟨z0, z1, z2, z3, z4, z5⟩ := c6 ZB3.out; have H27 := H26.out w3 b3) | (go_at_call 26; refine H27.mono ?_; rintro e w4 ⟨rfl, h4⟩; obtain ⟨t0, t1, t2, t3, t4, t5⟩ := c6 (h4.out.1.at (.inr rfl) ZB3.out); have H4 : Hid (Ft w0 w4 hp rp L' NoP) := h4.out.2; clear h4))
  all_goals go_wp2_with fail
  all_goals go_ret
  all_goals exact ⟨by simp, L', by have := HL.out; omega, H4.out⟩
set_option maxHeartbeats 4000000 in
set_option maxRecDepth 100000 in
theorem step_5 (hF : Hid (Ft w0 w hp rp L NoP)) (_hk : Hid (Kw k)) (hx : Hid ((Lit.int .i64 x).wf = true)) (hn : Hid (tot L < 1000)) : Calls Try.prog 10 #[.agg #[.pointer (some ⟨hp 0, 0, none⟩), .pointer (some ⟨hp 1, 0, none⟩), .pointer (some ⟨hp 2, 0, none⟩)], .agg #[.pointer (some ⟨rp 0, 0, none⟩), .pointer (some ⟨rp 1, 0, none⟩), .pointer (some ⟨rp 2, 0, none⟩)], .agg #[.int .i64 5, .int .i64 h, .int .i64 x, .int .u64 k.n, .int .u64 k.d, .int .i64 k.t]] w fun e w' => e = .returned (.bool true) ∧ Sr3 w0 w' hp rp L := by
  have HB0 : Hid (Bx w0 (((w.alloc (.cells (p3 hp) 26)).alloc (.cells (p3 rp) 31)).alloc (.cells (ob 5 h x k) 39)) hp rp L w.heap.size 5 h x k) := bx_new hF.out 5 h x k
  clear hF
  unfold p3 ob at HB0
  go_enter Try.func10, Try.ntmps10
  go_upto_region 1 with fail
  generalize ((w.alloc (.cells #[.pointer (some ⟨hp 0, 0, none⟩), .pointer (some ⟨hp 1, 0, none⟩), .pointer (some ⟨hp 2, 0, none⟩)] 26)).alloc (.cells #[.pointer (some ⟨rp 0, 0, none⟩), .pointer (some ⟨rp 1, 0, none⟩), .pointer (some ⟨rp 2, 0, none⟩)] 31)).alloc (.cells #[.int .i64 5, .int .i64 h, .int .i64 x, .int .u64 k.n, .int .u64 k.d, .int .i64 k.t] 39) = W0 at *
  generalize w.heap.size = b at *
  obtain ⟨x0, x1, x2, x3, x4, x5⟩ := c6 HB0.out.z2
  go_upto_region 2 with fail
  obtain ⟨i, hi, ei⟩ := idx3 h
  rw [ei]
  clear ei x0 x1 x2 x3 x4 x5
  have HI : Hid (i < 3) := hi
  have y0 := cp3 HB0.out.z0 hi
  have y1 := cp3 HB0.out.z1 hi
  have i0 : 0 ≤ (i : Int) := by omega
  have i3 : (i : Int) < 3 := by omega
  have i4 : ((i : Int)).toNat = i := by omega
  clear hi
  go_quiet (fail)
  have HB : Hid (Bx w0 (W0.drewN nq) hp rp L b 5 h x k) := HB0.out.below (below_drewN (Below.refl _ W0) nq)
  clear y0 y1 HB0
  generalize W0.drewN nq = W at *
  obtain ⟨x0, x1, x2, x3, x4, x5⟩ := c6 HB.out.z2
  obtain ⟨ee, L', hL', hc⟩ := st5 (HB.out.below (below_dr W)).t HI.out hx.out hn.out
  have HL : Hid (tot L' ≤ tot L) := hL'
  have ZB : Hid (W.drew.heap[b + 1 + 1]? = some (.cells (ob 5 h x k) 39 (0, 0))) := (HB.out.below (below_dr W)).z2
  have H22 : Hid (Calls Try.prog 22 #[.pointer (some ⟨hp i, 0, none⟩), .int .i64 x] W.drew fun e w2 => e = .returned (.int .i64 ee) ∧ Hid (Kt (fun j => (j = b ∨ j = b + 1) ∨ j = b + 1 + 1) W.drew w2 ∧ Calls Try.prog 27 #[.pointer (some ⟨rp i, 0, none⟩), .int .i64 x] w2 fun e w4 => e = .returned (.int .i64 ee) ∧ Hid (Kt (fun j => (j = b ∨ j = b + 1) ∨ j = b + 1 + 1) W.drew w4 ∧ Ft w0 w4 hp rp L' NoP))) := hc
  clear hc hL' hx HB
  go_upto_region 19 with fail
  go_region_held3 (fun w' : World => w'.cell? ⟨b + 1 + 1, 2, none⟩ = some (.int .i64 x) ∧ w'.cell? ⟨b + 1 + 1, 3, none⟩ = some (.int .u64 k.n) ∧ w'.cell? ⟨b + 1 + 1, 4, none⟩ = some (.int .u64 k.d) ∧ w'.cell? ⟨b + 1 + 1, 5, none⟩ = some (.int .i64 k.t)) (first | (with_reducible assumption) | (with_reducible exact ⟨t2, t3, t4, t5⟩) | (with_reducible exact ⟨y2, y3, y4, y5⟩) | (with_reducible exact ⟨x2, x3, x4, x5⟩) | (exact ⟨x2, x3, x4, x5⟩) | go_keep) (first | (go_at_call 22; refine H22.out.mono ?_; rintro e w2 ⟨rfl, h2⟩; have ZB2 : Hid (w2.heap[b + 1 + 1]? = some (.cells (ob 5 h x k) 39 (0, 0))) := h2.out.1.at (.inr rfl) ZB.out; obtain ⟨y0, y1, y2, y3, y4, y5⟩ := c6 ZB2.out; have H27 : Hid (Calls Try.prog 27 #[.pointer (some ⟨rp i, 0, none⟩), .int .i64 x] w2 fun e w4 => e = .returned (.int .i64 ee) ∧ Hid (Kt (fun j => (j = b ∨ j = b + 1) ∨ j = b + 1 + 1) W.drew w4 ∧ Ft w0 w4 hp rp L' NoP)) := h2.out.2; clear h2) | (go_at_call 27; refine H27.out.mono ?_; rintro e w4 ⟨rfl, h4⟩; obtain ⟨t0, t1, t2, t3, t4, t5⟩ := c6 (h4.out.1.at (.inr rfl) ZB.out); have H4 : Hid (Ft w0 w4 hp rp L' NoP) := h4.out.2; clear h4))
  all_goals go_wp2_with fail
  all_goals go_ret
  all_goals exact ⟨by simp, L', by have := HL.out; omega, H4.out⟩
set_option maxHeartbeats 4000000 in
set_option maxRecDepth 100000 in
theorem step_7 (hF : Hid (Ft w0 w hp rp L NoP)) (_hk : Hid (Kw k)) (_hx : Hid ((Lit.int .i64 x).wf = true)) (hn : Hid (tot L < 1000)) : Calls Try.prog 10 #[.agg #[.pointer (some ⟨hp 0, 0, none⟩), .pointer (some ⟨hp 1, 0, none⟩), .pointer (some ⟨hp 2, 0, none⟩)], .agg #[.pointer (some ⟨rp 0, 0, none⟩), .pointer (some ⟨rp 1, 0, none⟩), .pointer (some ⟨rp 2, 0, none⟩)], .agg #[.int .i64 7, .int .i64 h, .int .i64 x, .int .u64 k.n, .int .u64 k.d, .int .i64 k.t]] w fun e w' => e = .returned (.bool true) ∧ Sr3 w0 w' hp rp L := by
  have HB0 : Hid (Bx w0 (((w.alloc (.cells (p3 hp) 26)).alloc (.cells (p3 rp) 31)).alloc (.cells (ob 7 h x k) 39)) hp rp L w.heap.size 7 h x k) := bx_new hF.out 7 h x k
  clear hF
  unfold p3 ob at HB0
  go_enter Try.func10, Try.ntmps10
  go_upto_region 1 with fail
  generalize ((w.alloc (.cells #[.pointer (some ⟨hp 0, 0, none⟩), .pointer (some ⟨hp 1, 0, none⟩), .pointer (some ⟨hp 2, 0, none⟩)] 26)).alloc (.cells #[.pointer (some ⟨rp 0, 0, none⟩), .pointer (some ⟨rp 1, 0, none⟩), .pointer (some ⟨rp 2, 0, none⟩)] 31)).alloc (.cells #[.int .i64 7, .int .i64 h, .int .i64 x, .int .u64 k.n, .int .u64 k.d, .int .i64 k.t] 39) = W0 at *
  generalize w.heap.size = b at *
  obtain ⟨x0, x1, x2, x3, x4, x5⟩ := c6 HB0.out.z2
  go_upto_region 2 with fail
  obtain ⟨i, hi, ei⟩ := idx3 h
  rw [ei]
  clear ei x0 x1 x2 x3 x4 x5
  have HI : Hid (i < 3) := hi
  have y0 := cp3 HB0.out.z0 hi
  have y1 := cp3 HB0.out.z1 hi
  have i0 : 0 ≤ (i : Int) := by omega
  have i3 : (i : Int) < 3 := by omega
  have i4 : ((i : Int)).toNat = i := by omega
  clear hi
  go_quiet (fail)
  have HB : Hid (Bx w0 (W0.drewN nq) hp rp L b 7 h x k) := HB0.out.below (below_drewN (Below.refl _ W0) nq)
  clear y0 y1 HB0
  generalize W0.drewN nq = W at *
  obtain ⟨x0, x1, x2, x3, x4, x5⟩ := c6 HB.out.z2
  go_upto_region 26 with fail
  obtain ⟨m, hm, em⟩ := idx3 x
  rw [em]
  clear em x0 x1 x2 x3 x4 x5
  have HM : Hid (m < 3) := hm
  have y0 := cp3 HB.out.z0 hm
  have m0 : 0 ≤ (m : Int) := by omega
  have m3 : (m : Int) < 3 := by omega
  have m4 : ((m : Int)).toNat = m := by omega
  clear hm
  by_cases hmi : i = m
  · subst hmi
    have H21 := meld_self (hp i) W
    have HT : Hid (Ft w0 W hp rp L NoP) := F3e.less HB.out.t nofun
    clear HB
    go_wp2_with (go_at_call 21; refine H21.mono ?_; rintro e w2 ⟨rfl, rfl⟩)
    go_ret
    exact ⟨rfl, L, by omega, HT.out⟩
  · have hne : ((i : Int) == (m : Int)) = false := by simp; omega
    have hne2 : ¬ (i : Int) = (m : Int) := by omega
    have HC : Hid (Calls Try.prog 21 #[.pointer (some ⟨hp i, 0, none⟩), .pointer (some ⟨hp m, 0, none⟩)] W fun e w2 => e = .returned (.tuple #[.int .i64 (L i).length, .int .i64 0]) ∧ Hid (Kt (fun j => (j = b ∨ j = b + 1) ∨ j = b + 1 + 1) W w2 ∧ Calls Try.prog 29 #[.pointer (some ⟨rp i, 0, none⟩), .pointer (some ⟨rp m, 0, none⟩)] w2 fun e w4 => e = .returned (.tuple #[.int .i64 (L i).length, .int .i64 0]) ∧ Hid (Ft w0 w4 hp rp (upd (upd L m []) i (L i ++ L m)) NoP))) := st7 HB.out.t HI.out HM.out hmi hn.out
    have HT : Hid (tot (upd (upd L m []) i (L i ++ L m)) = tot L) := tot_meld L HI.out HM.out hmi
    generalize upd (upd L m []) i (L i ++ L m) = L' at *
    generalize (L i).length = yy at *
    clear hmi
    go_upto_region 27 with (go_at_call 21; refine HC.out.mono ?_; first | rintro e w2 rfl h2 | rintro e w2 ⟨rfl, h2⟩)
    have y1 := cp3 (h2.out.1.at (.inl (.inr rfl)) HB.out.z1) HM.out
    have H29 : Hid (Calls Try.prog 29 #[.pointer (some ⟨rp i, 0, none⟩), .pointer (some ⟨rp m, 0, none⟩)] w2 fun e w4 => e = .returned (.tuple #[.int .i64 yy, .int .i64 0]) ∧ Hid (Ft w0 w4 hp rp L' NoP)) := h2.out.2
    clear h2 HC HB y0
    go_wp2_with (go_at_call 29; refine H29.out.mono ?_; first | rintro e w4 rfl h4 | rintro e w4 ⟨rfl, h4⟩)
    go_ret
    exact ⟨by simp, L', by have := HT.out; omega, h4.out⟩
set_option maxHeartbeats 4000000 in
set_option maxRecDepth 100000 in
theorem step_x (hF : Hid (Ft w0 w hp rp L NoP)) (kd : Int) (n1 : ¬ kd = 1) (n2 : ¬ kd = 2) (n3 : ¬ kd = 3) (n4 : ¬ kd = 4) (n5 : ¬ kd = 5) (n6 : ¬ kd = 6) (n7 : ¬ kd = 7) (_hk : Hid (Kw k)) (_hx : Hid ((Lit.int .i64 x).wf = true)) (_hn : Hid (tot L < 1000)) : Calls Try.prog 10 #[.agg #[.pointer (some ⟨hp 0, 0, none⟩), .pointer (some ⟨hp 1, 0, none⟩), .pointer (some ⟨hp 2, 0, none⟩)], .agg #[.pointer (some ⟨rp 0, 0, none⟩), .pointer (some ⟨rp 1, 0, none⟩), .pointer (some ⟨rp 2, 0, none⟩)], .agg #[.int .i64 kd, .int .i64 h, .int .i64 x, .int .u64 k.n, .int .u64 k.d, .int .i64 k.t]] w fun e w' => e = .returned (.bool true) ∧ Sr3 w0 w' hp rp L := by
  have HB0 : Hid (Bx w0 (((w.alloc (.cells (p3 hp) 26)).alloc (.cells (p3 rp) 31)).alloc (.cells (ob kd h x k) 39)) hp rp L w.heap.size kd h x k) := bx_new hF.out kd h x k
  clear hF
  unfold p3 ob at HB0
  go_enter Try.func10, Try.ntmps10
  go_upto_region 1 with fail
  generalize ((w.alloc (.cells #[.pointer (some ⟨hp 0, 0, none⟩), .pointer (some ⟨hp 1, 0, none⟩), .pointer (some ⟨hp 2, 0, none⟩)] 26)).alloc (.cells #[.pointer (some ⟨rp 0, 0, none⟩), .pointer (some ⟨rp 1, 0, none⟩), .pointer (some ⟨rp 2, 0, none⟩)] 31)).alloc (.cells #[.int .i64 kd, .int .i64 h, .int .i64 x, .int .u64 k.n, .int .u64 k.d, .int .i64 k.t] 39) = W0 at *
  generalize w.heap.size = b at *
  obtain ⟨x0, x1, x2, x3, x4, x5⟩ := c6 HB0.out.z2
  go_upto_region 2 with fail
  obtain ⟨i, hi, ei⟩ := idx3 h
  rw [ei]
  clear ei x0 x1 x2 x3 x4 x5
  have HI : Hid (i < 3) := hi
  have y0 := cp3 HB0.out.z0 hi
  have y1 := cp3 HB0.out.z1 hi
  have i0 : 0 ≤ (i : Int) := by omega
  have i3 : (i : Int) < 3 := by omega
  have i4 : ((i : Int)).toNat = i := by omega
  clear hi
  go_quiet (fail)
  have HB : Hid (Bx w0 (W0.drewN nq) hp rp L b kd h x k) := HB0.out.below (below_drewN (Below.refl _ W0) nq)
  clear y0 y1 HB0
  generalize W0.drewN nq = W at *
  obtain ⟨x0, x1, x2, x3, x4, x5⟩ := c6 HB.out.z2
  have HT : Hid (Ft w0 W hp rp L NoP) := F3e.less HB.out.t nofun
  clear HB
  go_wp2_with fail
  go_ret
  exact ⟨rfl, L, by omega, HT.out⟩
end
end Go.Proofs.Ytmcmldlnmmbbgaa

namespace Go.Proofs.Ytmcmldlnmmbbgaa
open Go.RowKit Go.Maps

section
variable {w0 : Fx} {w : World} {hp rp : Nat → Nat} {L : Nat → List RE} {h x : Int} {k : K}
theorem step_any (hF : Ft w0 w hp rp L NoP) (kd : Int) (hk : Kw k) (hx : (Lit.int .i64 x).wf = true) (hn : tot L < 1000) : Calls Try.prog 10 #[.agg #[.pointer (some ⟨hp 0, 0, none⟩), .pointer (some ⟨hp 1, 0, none⟩), .pointer (some ⟨hp 2, 0, none⟩)], .agg #[.pointer (some ⟨rp 0, 0, none⟩), .pointer (some ⟨rp 1, 0, none⟩), .pointer (some ⟨rp 2, 0, none⟩)], .agg #[.int .i64 kd, .int .i64 h, .int .i64 x, .int .u64 k.n, .int .u64 k.d, .int .i64 k.t]] w fun e w' => e = .returned (.bool true) ∧ Sr3 w0 w' hp rp L := by
  by_cases n1 : kd = 1
  · subst n1; exact step_1 hF hk hx hn
  by_cases n2 : kd = 2
  · subst n2; exact step_2 hF hk hx hn
  by_cases n3 : kd = 3
  · subst n3; exact step_3 hF hk hx hn
  by_cases n4 : kd = 4
  · subst n4; exact step_4 hF hk hx hn
  by_cases n5 : kd = 5
  · subst n5; exact step_5 hF hk hx hn
  by_cases n6 : kd = 6
  · subst n6; exact step_6 hF hk hx hn
  by_cases n7 : kd = 7
  · subst n7; exact step_7 hF hk hx hn
  exact step_x hF kd n1 n2 n3 n4 n5 n6 n7 hk hx hn
end
/-- behind a draining -/
def Sd (w0 : Fx) (w : World) (hp rp : Nat → Nat) (L : Nat → List RE) : Prop := ∃ L', tot L' ≤ tot L ∧ Ft w0 w hp rp L' NoP
set_option maxHeartbeats 4000000 in
set_option maxRecDepth 100000 in
theorem drained_law {w0 : Fx} {w : World} {hp rp : Nat → Nat} {L : Nat → List RE} {i : Nat} (hi : Hid (i < 3)) (hF : Hid (Ft w0 w hp rp L NoP)) (hn : Hid (tot L < 1000)) : Calls Try.prog 13 #[.pointer (some ⟨hp i, 0, none⟩), .pointer (some ⟨rp i, 0, none⟩)] w fun e w' => e = .returned (.bool true) ∧ Sd w0 w' hp rp L := by
  go_enter Try.func13, Try.ntmps13
  go_wp2_with fail
  go_loopg [5] (rcount (L i) + 1) (fun kk p5 wr => ∃ L', Hid (tot L' ≤ tot L ∧ rcount (L' i) + 1 ≤ kk ∧ Ft w0 wr hp rp L' NoP))
  case atStart => exact ⟨L, Nat.le_refl _, Nat.le_refl _, hF.out⟩
  case round =>
    obtain ⟨L1, HR⟩ := hrel
    clear hF
    obtain ⟨y, k1, ee, L', hL', hz, hnz, hpop⟩ := st3 HR.out.2.2 hi.out (by have := HR.out.1; have := hn.out; omega)
    have HL : Hid (tot L' ≤ tot L1 ∧ (ee = 0 → rcount (L' i) + 1 = rcount (L1 i))) := ⟨hL', hz⟩
    have HP : Hid (Calls Try.prog 15 #[.pointer (some ⟨hp i, 0, none⟩)] wr fun e w2 => e = .returned (.tuple #[.int .i64 y, .agg #[.int .u64 k1.n, .int .u64 k1.d, .int .i64 k1.t], .int .i64 ee]) ∧ Hid (∀ w3, w3 = w2.alloc (.cells (ky3 k1) 37) → Calls Try.prog 25 #[.pointer (some ⟨rp i, 0, none⟩)] w3 fun e w4 => e = .returned (.tuple #[.int .i64 y, .agg #[.int .u64 k1.n, .int .u64 k1.d, .int .i64 k1.t], .int .i64 ee]) ∧ Hid (w4.heap[w2.heap.size]? = some (.cells (ky3 k1) 37 (0, 0)) ∧ Ft w0 w4 hp rp L' NoP))) := hpop
    clear hpop hL' hz hnz
    go_upto_region 2 with (go_at_call 15; refine HP.out.mono ?_; first | rintro e w2 rfl h2 | rintro e w2 ⟨rfl, h2⟩)
    have HQ : Hid (Calls Try.prog 25 #[.pointer (some ⟨rp i, 0, none⟩)] (w2.alloc (.cells #[.int .u64 k1.n, .int .u64 k1.d, .int .i64 k1.t] 37)) fun e w4 => e = .returned (.tuple #[.int .i64 y, .agg #[.int .u64 k1.n, .int .u64 k1.d, .int .i64 k1.t], .int .i64 ee]) ∧ Hid (w4.heap[w2.heap.size]? = some (.cells (ky3 k1) 37 (0, 0)) ∧ Ft w0 w4 hp rp L' NoP)) := h2.out _ rfl
    generalize w2.alloc (.cells #[.int .u64 k1.n, .int .u64 k1.d, .int .i64 k1.t] 37) = W3 at *
    generalize w2.heap.size = kb at *
    clear HP h2
    go_upto_region 3 with (go_at_call 25; refine HQ.out.mono ?_; first | rintro e w4 rfl h4 | rintro e w4 ⟨rfl, h4⟩)
    have T5 : Hid (Ft w0 (w4.alloc (.cells #[.int .u64 k1.n, .int .u64 k1.d, .int .i64 k1.t] 49)) hp rp L' NoP) := F3e.less (F3e.box h4.out.2 _) nofun
    obtain ⟨y0, y1, y2⟩ := c3 (at_alloc (o' := .cells #[.int .u64 k1.n, .int .u64 k1.d, .int .i64 k1.t] 49) h4.out.1)
    obtain ⟨z0, z1, z2⟩ := c3 (w := w4.alloc (.cells #[.int .u64 k1.n, .int .u64 k1.d, .int .i64 k1.t] 49)) (g := w4.heap.size) new0
    generalize w4.alloc (.cells #[.int .u64 k1.n, .int .u64 k1.d, .int .i64 k1.t] 49) = W5 at *
    generalize w4.heap.size = kb2 at *
    clear h4 HQ
    have hc6 := And.intro z0 (And.intro z1 (And.intro z2 (And.intro y0 (And.intro y1 y2))))
    have H17 : Hid (∀ w, Calls Try.prog 17 #[.agg #[.int .u64 k1.n, .int .u64 k1.d, .int .i64 k1.t]] w fun e w' => e = .returned (.agg #[.int .u64 k1.n, .int .u64 k1.d, .int .i64 k1.t]) ∧ Below w.heap.size w w') := plain_any k1.n k1.d k1.t
    go_region_held3 (fun w' : World => w'.cell? ⟨kb2, 0, none⟩ = some (.int .u64 k1.n) ∧ w'.cell? ⟨kb2, 1, none⟩ = some (.int .u64 k1.d) ∧ w'.cell? ⟨kb2, 2, none⟩ = some (.int .i64 k1.t) ∧ w'.cell? ⟨kb, 0, none⟩ = some (.int .u64 k1.n) ∧ w'.cell? ⟨kb, 1, none⟩ = some (.int .u64 k1.d) ∧ w'.cell? ⟨kb, 2, none⟩ = some (.int .i64 k1.t)) (repeat' (first | (with_reducible assumption) | (with_reducible refine keep6 b7 ?_) | (with_reducible refine keep1c' b7 ?_) | go_keep)) (first | (go_at_call 17; refine (H17.out _).mono ?_; rintro e w7 ⟨rfl, b7⟩; have y7 := below_from (B := W5.heap.size) (w := W5) (by go_grown) b7 (by simp)))
    have T7 : Hid (Ft w0 w7 hp rp L' NoP) := F3e.below T5.out y7
    clear y7 b7 hc6 T5 z0 z1 z2 y0 y1 y2 H17
    by_cases he : ee = 0
    · have hL2 : Hid (tot L' ≤ tot L ∧ rcount (L' i) + 1 < gk) := by
        have h1 := HL.out.1; have h2 := HL.out.2 he; have h3 := HR.out.1; have h4 := HR.out.2.1
        exact ⟨by omega, by omega⟩
      subst he
      clear HL HR
      go_wp2_with fail
      go_roundg (gk - 1)
      case measure => have := hL2.out; omega
      case rel => exact ⟨L', hL2.out.1, by have := hL2.out; omega, T7.out⟩
    · have he' : (ee == 0) = false := by simp; omega
      have hL2 : Hid (tot L' ≤ tot L) := by
        have h1 := HL.out.1; have h3 := HR.out.1
        exact (by omega : tot L' ≤ tot L)
      clear HL HR
      go_wp2_with fail
      go_ret
      exact ⟨rfl, L', hL2.out, T7.out⟩
end Go.Proofs.Ytmcmldlnmmbbgaa

namespace Go.Proofs.Ytmcmldlnmmbbgaa
open Go.RowKit Go.Maps

/-- a script's call -/
structure OpR where
  kd : Int
  h : Int
  x : Int
  k : K
structure OpR.ok (o : OpR) : Prop where
  x : (Lit.int .i64 o.x).wf = true
  k : Kw o.k
def OpR.cs (o : OpR) : List Value := [.int .i64 o.kd, .int .i64 o.h, .int .i64 o.x, .int .u64 o.k.n, .int .u64 o.k.d, .int .i64 o.k.t]
def oflat (l : List OpR) : List Value := l.flatMap OpR.cs
structure Scr (w : World) (q : Option Addr) (l : List OpR) : Prop where
  row : l = [] ∨ ∃ g o, q = some ⟨g, o, none⟩ ∧ RowV w g o (oflat l)
  each : ∀ o ∈ l, o.ok
theorem oflat_get : ∀ (l : List OpR) (i : Nat) (o : OpR) (j : Nat) (u : Value), l[i]? = some o → o.cs[j]? = some u → j < 6 → (oflat l)[i * 6 + j]? = some u
  | [], i, o, j, u, h, _, _ => by simp at h
  | p :: l, 0, o, j, u, h, hu, hj => by
    have e : p = o := by simpa using h
    subst e
    show (p.cs ++ oflat l)[0 * 6 + j]? = some u
    rw [Nat.zero_mul, Nat.zero_add, List.getElem?_append_left (by show j < 6; exact hj)]
    exact hu
  | p :: l, i + 1, o, j, u, h, hu, hj => by
    show (p.cs ++ oflat l)[(i + 1) * 6 + j]? = some u
    rw [List.getElem?_append_right (by show 6 ≤ _; omega)]
    rw [show (i + 1) * 6 + j - p.cs.length = i * 6 + j by show (i + 1) * 6 + j - 6 = _; omega]
    exact oflat_get l i o j u (by simpa using h) hu hj
theorem Scr.at {w : World} {q : Option Addr} {l : List OpR} (h : Scr w q l) {i : Nat} (hi : i < l.length) : ∃ g f, q = some ⟨g, f, none⟩ ∧ l[i].ok ∧ ∀ w1, Below w.heap.size w w1 → w1.cell? ⟨g, f + i * 6, none⟩ = some (.int .i64 l[i].kd) ∧ w1.cell? ⟨g, f + i * 6 + 1, none⟩ = some (.int .i64 l[i].h) ∧ w1.cell? ⟨g, f + i * 6 + 2, none⟩ = some (.int .i64 l[i].x) ∧ w1.cell? ⟨g, f + i * 6 + 3, none⟩ = some (.int .u64 l[i].k.n) ∧ w1.cell? ⟨g, f + i * 6 + 4, none⟩ = some (.int .u64 l[i].k.d) ∧ w1.cell? ⟨g, f + i * 6 + 5, none⟩ = some (.int .i64 l[i].k.t) := by
  have hr0 : l[i]? = some l[i] := List.getElem?_eq_getElem _
  have hne : l ≠ [] := by rintro rfl; simp at hi
  obtain ⟨g, f, rfl, hrow⟩ := h.row.resolve_left hne
  refine ⟨g, f, rfl, h.each _ (List.getElem_mem _), fun w1 b1 => ⟨?_, ?_, ?_, ?_, ?_, ?_⟩⟩
  · exact keep1c' b1 (hrow (i * 6 + 0) _ (oflat_get l i _ 0 _ hr0 rfl (by omega)))
  · exact keep1c' b1 (hrow (i * 6 + 1) _ (oflat_get l i _ 1 _ hr0 rfl (by omega)))
  · exact keep1c' b1 (hrow (i * 6 + 2) _ (oflat_get l i _ 2 _ hr0 rfl (by omega)))
  · exact keep1c' b1 (hrow (i * 6 + 3) _ (oflat_get l i _ 3 _ hr0 rfl (by omega)))
  · exact keep1c' b1 (hrow (i * 6 + 4) _ (oflat_get l i _ 4 _ hr0 rfl (by omega)))
  · exact keep1c' b1 (hrow (i * 6 + 5) _ (oflat_get l i _ 5 _ hr0 rfl (by omega)))
/-- a run: the heaps, and the law's two rows of pointers -/
def Pl (w wr : World) (a3 a7 : Nat) (hp rp : Nat → Nat) (m : Nat) : Prop := ∃ (fx : Fx) (L : Nat → List RE), fx.w = w ∧ (fx.V a3 ∧ fx.V a7) ∧ (fx.wv.heap[a3]? = some (.cells (p3 hp) 26 (0, 0)) ∧ fx.wv.heap[a7]? = some (.cells (p3 rp) 31 (0, 0))) ∧ tot L ≤ m ∧ Ft fx wr hp rp L NoP
section
variable {w wr w' : World} {a3 a7 : Nat} {hp rp : Nat → Nat} {m : Nat}
theorem Pl.z (h : Pl w wr a3 a7 hp rp m) : wr.heap[a3]? = some (.cells (p3 hp) 26 (0, 0)) ∧ wr.heap[a7]? = some (.cells (p3 rp) 31 (0, 0)) := by
  obtain ⟨fx, L, _, ⟨v1, v2⟩, ⟨e1, e2⟩, _, own, hF⟩ := h
  exact ⟨(hF.v a3 v1).2.2.trans e1, (hF.v a7 v2).2.2.trans e2⟩
theorem Pl.b (h : Pl w wr a3 a7 hp rp m) : Below w.heap.size w wr := by
  obtain ⟨fx, L, rfl, _, _, _, own, hF⟩ := h
  exact hF.b
theorem Pl.below (h : Pl w wr a3 a7 hp rp m) (b : Below wr.heap.size wr w') : Pl w w' a3 a7 hp rp m := by
  obtain ⟨fx, L, h1, h2, h3, h4, h5⟩ := h
  exact ⟨fx, L, h1, h2, h3, h4, F3e.below h5 b⟩
theorem Pl.step (h : Pl w wr a3 a7 hp rp m) (hm : m < 1000) (kd hh x : Int) (k : K) (hk : Kw k) (hx : (Lit.int .i64 x).wf = true) : Calls Try.prog 10 #[.agg #[.pointer (some ⟨hp 0, 0, none⟩), .pointer (some ⟨hp 1, 0, none⟩), .pointer (some ⟨hp 2, 0, none⟩)], .agg #[.pointer (some ⟨rp 0, 0, none⟩), .pointer (some ⟨rp 1, 0, none⟩), .pointer (some ⟨rp 2, 0, none⟩)], .agg #[.int .i64 kd, .int .i64 hh, .int .i64 x, .int .u64 k.n, .int .u64 k.d, .int .i64 k.t]] wr fun e w' => e = .returned (.bool true) ∧ Hid (Pl w w' a3 a7 hp rp (m + 1)) := by
  obtain ⟨fx, L, h1, h2, h3, h4, h5⟩ := h
  refine (step_any h5 kd hk hx (by omega)).mono ?_
  rintro e w' ⟨rfl, L', h6, h7⟩
  exact ⟨rfl, fx, L', h1, h2, h3, by omega, h7⟩
theorem Pl.drain (h : Pl w wr a3 a7 hp rp m) (hm : m < 1000) {i : Nat} (hi : i < 3) : Calls Try.prog 13 #[.pointer (some ⟨hp i, 0, none⟩), .pointer (some ⟨rp i, 0, none⟩)] wr fun e w' => e = .returned (.bool true) ∧ Hid (Pl w w' a3 a7 hp rp m) := by
  obtain ⟨fx, L, h1, h2, h3, h4, h5⟩ := h
  have hl : tot L < 1000 := by omega
  refine (drained_law hi h5 hl).mono ?_
  rintro e w' ⟨rfl, L', h6, h7⟩
  exact ⟨rfl, fx, L', h1, h2, h3, by omega, h7⟩
theorem Pl.len (h : Pl w wr a3 a7 hp rp m) (hm : m < 1000) {i : Nat} (hi : i < 3) : ∃ cn : Nat, (∀ w1, Below wr.heap.size wr w1 → Calls Try.prog 11 #[.pointer (some ⟨hp i, 0, none⟩)] w1 fun e w2 => e = .returned (.int .i64 cn) ∧ w2 = w1) ∧ ∀ w1, Below wr.heap.size wr w1 → Calls Try.prog 12 #[.pointer (some ⟨rp i, 0, none⟩)] w1 fun e w2 => e = .returned (.int .i64 cn) ∧ w2 = w1 := by
  obtain ⟨fx, L, h1, h2, h3, h4, h5⟩ := h
  exact ⟨rcount (L i), fun w1 b1 => (stL (F3e.below h5 b1) hi (by omega)).1, fun w1 b1 => (stL (F3e.below h5 b1) hi (by omega)).2⟩
/-- the heaps as they are made -/
theorem Pl.new {a : Nat} (b : Below w.heap.size w wr) (ha : w.heap.size ≤ a) (h : ∀ i, i < 3 → Blk wr (a + i) 70 32 zH) (r : ∀ i, i < 3 → wr.heap[a + 4 + i]? = some (.cells #[.slice none 0 0] 30 (0, 0))) (z0 : wr.heap[a + 3]? = some (.cells (p3 fun i => a + i) 26 (0, 0))) (z1 : wr.heap[a + 7]? = some (.cells (p3 fun i => a + 4 + i) 31 (0, 0))) : ∃ hp rp, Hid (Pl w wr (a + 3) (a + 7) hp rp 0) := by
  refine ⟨fun i => a + i, fun i => a + 4 + i, ⟨w, fun k => k = a + 3 ∨ k = a + 7, wr⟩, fun _ => [], rfl, ⟨.inl rfl, .inr rfl⟩, ⟨z0, z1⟩, Nat.le_refl _, fun k => if k < a then 0 else if k < a + 3 then k - a + 1 else if k < a + 4 then 0 else if k < a + 7 then k - (a + 4) + 4 else 0, fun i hi => ?_, fun i hi => ?_, fun _ _ => nofun, fun k hk => ?_, nofun, b, fun k hk => ?_⟩
  · refine ⟨fun k => if k = a + i then .hp else .no, zS, ?_, fun k q => ?_⟩
    · show Hc wr _ (a + i) (rcont []) 0 0 zS
      rw [rcont_nil]
      exact hc_zero (h i hi)
    · by_cases e : k = a + i
      · subst e
        rw [if_neg (by omega), if_pos (by omega)]
        omega
      · dsimp only at q
        rw [if_neg e] at q; exact absurd rfl q
  · refine ⟨.slice none 0 0, ⟨r i hi, World.ownsRow_nil _ _ _ _⟩, ?_, nofun⟩
    show (if a + 4 + i < a then 0 else if a + 4 + i < a + 3 then a + 4 + i - a + 1 else if a + 4 + i < a + 4 then 0 else if a + 4 + i < a + 7 then a + 4 + i - (a + 4) + 4 else 0) = i + 4
    rw [if_neg (by omega), if_neg (by omega), if_neg (by omega), if_pos (by omega)]
    omega
  · show w.heap.size ≤ k
    by_cases q : k < a
    · rw [if_pos q] at hk; exact absurd rfl hk
    · omega
  · have l1 := (Array.getElem?_eq_some_iff.1 z0).1
    have l2 := (Array.getElem?_eq_some_iff.1 z1).1
    rcases hk with q | q <;> subst q
    · exact ⟨l1, by rw [if_neg (by omega), if_neg (by omega), if_pos (by omega)], rfl⟩
    · exact ⟨l2, by rw [if_neg (by omega), if_neg (by omega), if_neg (by omega), if_neg (by omega)], rfl⟩
end
end Go.Proofs.Ytmcmldlnmmbbgaa

namespace Go.Proofs.Ytmcmldlnmmbbgaa
open Go.RowKit Go.Maps

theorem pl_new (w w1 W : World) (a : Nat) (hb : Below w.heap.size w w1) (ea : w1.heap.size = a) (eW : W = (((((((w1.alloc (.cells zeroH 70)).alloc (.cells zeroH 70)).alloc (.cells zeroH 70)).alloc (.cells #[.pointer (some ⟨a, 0, none⟩), .pointer (some ⟨a + 1, 0, none⟩), .pointer (some ⟨a + 1 + 1, 0, none⟩)] 26)).alloc (.cells #[.slice none 0 0] 30)).alloc (.cells #[.slice none 0 0] 30)).alloc (.cells #[.slice none 0 0] 30)).alloc (.cells #[.pointer (some ⟨a + 4, 0, none⟩), .pointer (some ⟨a + 5, 0, none⟩), .pointer (some ⟨a + 6, 0, none⟩)] 31)) : ∃ hp rp, Hid (Pl w W (a + 3) (a + 7) hp rp 0) := by
  subst ea
  have z := hb.size
  refine Pl.new (a := w1.heap.size) ?_ z ?_ ?_ ?_ ?_
  · rw [eW]
    exact (((((((hb.alloc z _).alloc (by simp; omega) _).alloc (by simp; omega) _).alloc (by simp; omega) _).alloc (by simp; omega) _).alloc (by simp; omega) _).alloc (by simp; omega) _).alloc (by simp; omega) _
  · intro i hi
    rw [eW]
    have n1 := new_blk w1
    have n2 := new_blk (w1.alloc (.cells zeroH 70))
    have n3 := new_blk ((w1.alloc (.cells zeroH 70)).alloc (.cells zeroH 70))
    rw [World.size_alloc] at n2
    rw [World.size_alloc, World.size_alloc] at n3
    rcases (by omega : i = 0 ∨ i = 1 ∨ i = 2) with rfl | rfl | rfl
    · exact blk_alloc (blk_alloc (blk_alloc (blk_alloc (blk_alloc (blk_alloc (blk_alloc n1 _) _) _) _) _) _) _
    · exact blk_alloc (blk_alloc (blk_alloc (blk_alloc (blk_alloc (blk_alloc n2 _) _) _) _) _) _
    · exact blk_alloc (blk_alloc (blk_alloc (blk_alloc (blk_alloc n3 _) _) _) _) _
  · intro i hi
    rw [eW]
    rcases (by omega : i = 0 ∨ i = 1 ∨ i = 2) with rfl | rfl | rfl
    · exact at_alloc (at_alloc (at_alloc (newN (by simp))))
    · exact at_alloc (at_alloc (newN (by simp)))
    · exact at_alloc (newN (by simp))
  · rw [eW]
    exact at_alloc (at_alloc (at_alloc (at_alloc (newN (by simp)))))
  · rw [eW]
    exact newN (by simp)
set_option maxHeartbeats 8000000 in
set_option maxRecDepth 100000 in
theorem plays_law (q1 : Option Addr) (cc : Nat) (O : List OpR) (w : World) (hL : Hid (Scr w q1 O)) :
    Calls Try.prog 3 #[.slice q1 O.length cc] w fun e w' => e = .returned (.bool true) ∧ Below w.heap.size w w' := by
  have H8 : Hid (∀ w, Calls Try.prog 8 #[] w fun e w' => e = .returned (.bool true) ∧ Below w.heap.size w w') := fun w => awake_any w
  have H9 : Hid (∀ w, Calls Try.prog 9 #[] w fun e w' => e = .returned (.pointer (some ⟨w.heap.size, 0, none⟩)) ∧ w' = w.alloc (.cells zeroH 70)) := fun w => new_at w
  go_enter Try.func3, Try.ntmps3
  by_cases hn : 500 < O.length
  · have hn' : (500 : Int) < (O.length : Int) := by omega
    go_upto_region 2 with (go_at_call 8; refine (H8.out _).mono ?_; rintro e w1 ⟨rfl, b1⟩)
    have B1 : Hid (Below w.heap.size w w1) := b1
    clear b1
    go_wp2_with (go_at_call 8; refine (H8.out _).mono ?_; rintro e w2 ⟨rfl, b2⟩)
    go_ret
    exact ⟨rfl, B1.out.trans (b2.mono B1.out.size)⟩
  · have hn' : ¬ (500 : Int) < (O.length : Int) := by omega
    go_upto_region 3 with (go_at_call 8; refine (H8.out _).mono ?_; rintro e w1 ⟨rfl, b1⟩)
    have B1 : Hid (Below w.heap.size w w1) := b1
    clear b1
    go_upto_region 5 with (go_at_call 9; refine (H9.out _).mono ?_; rintro e w2 ⟨rfl, rfl⟩)
    generalize hW : ((((((((w1.alloc (.cells zeroH 70)).alloc (.cells zeroH 70)).alloc (.cells zeroH 70)).alloc (.cells #[.pointer (some ⟨w1.heap.size, 0, none⟩), .pointer (some ⟨w1.heap.size + 1, 0, none⟩), .pointer (some ⟨w1.heap.size + 1 + 1, 0, none⟩)] 26)).alloc (.cells #[.slice none 0 0] 30)).alloc (.cells #[.slice none 0 0] 30)).alloc (.cells #[.slice none 0 0] 30)).alloc (.cells #[.pointer (some ⟨w1.heap.size + 1 + 1 + 1 + 1, 0, none⟩), .pointer (some ⟨w1.heap.size + 1 + 1 + 1 + 1 + 1, 0, none⟩), .pointer (some ⟨w1.heap.size + 1 + 1 + 1 + 1 + 1 + 1, 0, none⟩)] 31)) = W at *
    obtain ⟨hp, rp, L0⟩ := pl_new w w1 W w1.heap.size B1.out rfl hW.symm
    have L1 : Hid (Pl w W (w1.heap.size + 1 + 1 + 1) (w1.heap.size + 1 + 1 + 1 + 1 + 1 + 1 + 1) hp rp 0) := L0
    clear L0 hW B1 H8 H9
    generalize w1.heap.size + 1 + 1 + 1 + 1 + 1 + 1 + 1 = a7 at *
    generalize w1.heap.size + 1 + 1 + 1 = a3 at *
    generalize w1.heap.size + 1 + 1 = s2 at *
    generalize w1.heap.size + 1 = s1 at *
    generalize w1.heap.size = s0 at *
    have HN : Hid (O.length ≤ 500) := by unfold Hid; omega
    clear hn
    go_wp2_with fail
    go_loopw [5] (fun t wr => ∃ i : Nat, i ≤ O.length ∧ t = .int .i64 i ∧ Hid (Pl w wr a3 a7 hp rp i)) (fun t _ => O.length - (intOf t).toNat)
    case atStart => exact ⟨0, Nat.zero_le _, rfl, L1.out⟩
    case round =>
      obtain ⟨i, hi, rfl, HE⟩ := hrel
      clear L1
      by_cases hil : i < O.length
      · have hil' : (i : Int) < (O.length : Int) := by omega
        obtain ⟨g, f, eq1, hok, hcell⟩ := hL.out.at hil
        subst eq1
        generalize O[i] = oo at *
        have HB : Hid (∀ w1, Pl w w1 a3 a7 hp rp i ∨ Pl w w1 a3 a7 hp rp (i + 1) → w1.cell? ⟨a3, 0, none⟩ = some (.pointer (some ⟨hp 0, 0, none⟩)) ∧ w1.cell? ⟨a3, 1, none⟩ = some (.pointer (some ⟨hp 1, 0, none⟩)) ∧ w1.cell? ⟨a3, 2, none⟩ = some (.pointer (some ⟨hp 2, 0, none⟩)) ∧ w1.cell? ⟨a7, 0, none⟩ = some (.pointer (some ⟨rp 0, 0, none⟩)) ∧ w1.cell? ⟨a7, 1, none⟩ = some (.pointer (some ⟨rp 1, 0, none⟩)) ∧ w1.cell? ⟨a7, 2, none⟩ = some (.pointer (some ⟨rp 2, 0, none⟩)) ∧ w1.cell? ⟨g, f + i * 6, none⟩ = some (.int .i64 oo.kd) ∧ w1.cell? ⟨g, f + i * 6 + 1, none⟩ = some (.int .i64 oo.h) ∧ w1.cell? ⟨g, f + i * 6 + 2, none⟩ = some (.int .i64 oo.x) ∧ w1.cell? ⟨g, f + i * 6 + 3, none⟩ = some (.int .u64 oo.k.n) ∧ w1.cell? ⟨g, f + i * 6 + 4, none⟩ = some (.int .u64 oo.k.d) ∧ w1.cell? ⟨g, f + i * 6 + 5, none⟩ = some (.int .i64 oo.k.t)) := by
          intro w1 hp1
          have hz : w1.heap[a3]? = some (.cells (p3 hp) 26 (0, 0)) ∧ w1.heap[a7]? = some (.cells (p3 rp) 31 (0, 0)) := by rcases hp1 with q | q <;> exact q.z
          have hb : Below w.heap.size w w1 := by rcases hp1 with q | q <;> exact q.b
          obtain ⟨d0, d1, d2⟩ := c3 hz.1
          obtain ⟨e0, e1, e2⟩ := c3 hz.2
          exact ⟨d0, d1, d2, e0, e1, e2, hcell w1 hb⟩
        have H10 : Hid (Calls Try.prog 10 #[.agg #[.pointer (some ⟨hp 0, 0, none⟩), .pointer (some ⟨hp 1, 0, none⟩), .pointer (some ⟨hp 2, 0, none⟩)], .agg #[.pointer (some ⟨rp 0, 0, none⟩), .pointer (some ⟨rp 1, 0, none⟩), .pointer (some ⟨rp 2, 0, none⟩)], .agg #[.int .i64 oo.kd, .int .i64 oo.h, .int .i64 oo.x, .int .u64 oo.k.n, .int .u64 oo.k.d, .int .i64 oo.k.t]] wr.drew fun e w' => e = .returned (.bool true) ∧ Hid (Pl w w' a3 a7 hp rp (i + 1))) := (HE.out.below (below_dr wr)).step (by have := HN.out; omega) oo.kd oo.h oo.x oo.k hok.k hok.x
        have hcl : wr.cell? ⟨a3, 0, none⟩ = some (.pointer (some ⟨hp 0, 0, none⟩)) ∧ wr.cell? ⟨a3, 1, none⟩ = some (.pointer (some ⟨hp 1, 0, none⟩)) ∧ wr.cell? ⟨a3, 2, none⟩ = some (.pointer (some ⟨hp 2, 0, none⟩)) ∧ wr.cell? ⟨a7, 0, none⟩ = some (.pointer (some ⟨rp 0, 0, none⟩)) ∧ wr.cell? ⟨a7, 1, none⟩ = some (.pointer (some ⟨rp 1, 0, none⟩)) ∧ wr.cell? ⟨a7, 2, none⟩ = some (.pointer (some ⟨rp 2, 0, none⟩)) ∧ wr.cell? ⟨g, f + i * 6, none⟩ = some (.int .i64 oo.kd) ∧ wr.cell? ⟨g, f + i * 6 + 1, none⟩ = some (.int .i64 oo.h) ∧ wr.cell? ⟨g, f + i * 6 + 2, none⟩ = some (.int .i64 oo.x) ∧ wr.cell? ⟨g, f + i * 6 + 3, none⟩ = some (.int .u64 oo.k.n) ∧ wr.cell? ⟨g, f + i * 6 + 4, none⟩ = some (.int .u64 oo.k.d) ∧ wr.cell? ⟨g, f + i * 6 + 5, none⟩ = some (.int .i64 oo.k.t) := HB.out wr (.inl HE.out)
        clear hcell hok HE
        go_upto_region 8 with fail
        go_region_held3 (fun w' : World => w'.cell? ⟨a3, 0, none⟩ = some (.pointer (some ⟨hp 0, 0, none⟩)) ∧ w'.cell? ⟨a3, 1, none⟩ = some (.pointer (some ⟨hp 1, 0, none⟩)) ∧ w'.cell? ⟨a3, 2, none⟩ = some (.pointer (some ⟨hp 2, 0, none⟩)) ∧ w'.cell? ⟨a7, 0, none⟩ = some (.pointer (some ⟨rp 0, 0, none⟩)) ∧ w'.cell? ⟨a7, 1, none⟩ = some (.pointer (some ⟨rp 1, 0, none⟩)) ∧ w'.cell? ⟨a7, 2, none⟩ = some (.pointer (some ⟨rp 2, 0, none⟩)) ∧ w'.cell? ⟨g, f + i * 6, none⟩ = some (.int .i64 oo.kd) ∧ w'.cell? ⟨g, f + i * 6 + 1, none⟩ = some (.int .i64 oo.h) ∧ w'.cell? ⟨g, f + i * 6 + 2, none⟩ = some (.int .i64 oo.x) ∧ w'.cell? ⟨g, f + i * 6 + 3, none⟩ = some (.int .u64 oo.k.n) ∧ w'.cell? ⟨g, f + i * 6 + 4, none⟩ = some (.int .u64 oo.k.d) ∧ w'.cell? ⟨g, f + i * 6 + 5, none⟩ = some (.int .i64 oo.k.t)) (first | (with_reducible assumption) | (with_reducible exact hcl2) | (with_reducible exact hcl) | (exact hcl) | go_keep) (first | (go_at_call 10; refine H10.out.mono ?_; rintro e w2 ⟨rfl, h2⟩; have hcl2 : w2.cell? ⟨a3, 0, none⟩ = some (.pointer (some ⟨hp 0, 0, none⟩)) ∧ w2.cell? ⟨a3, 1, none⟩ = some (.pointer (some ⟨hp 1, 0, none⟩)) ∧ w2.cell? ⟨a3, 2, none⟩ = some (.pointer (some ⟨hp 2, 0, none⟩)) ∧ w2.cell? ⟨a7, 0, none⟩ = some (.pointer (some ⟨rp 0, 0, none⟩)) ∧ w2.cell? ⟨a7, 1, none⟩ = some (.pointer (some ⟨rp 1, 0, none⟩)) ∧ w2.cell? ⟨a7, 2, none⟩ = some (.pointer (some ⟨rp 2, 0, none⟩)) ∧ w2.cell? ⟨g, f + i * 6, none⟩ = some (.int .i64 oo.kd) ∧ w2.cell? ⟨g, f + i * 6 + 1, none⟩ = some (.int .i64 oo.h) ∧ w2.cell? ⟨g, f + i * 6 + 2, none⟩ = some (.int .i64 oo.x) ∧ w2.cell? ⟨g, f + i * 6 + 3, none⟩ = some (.int .u64 oo.k.n) ∧ w2.cell? ⟨g, f + i * 6 + 4, none⟩ = some (.int .u64 oo.k.d) ∧ w2.cell? ⟨g, f + i * 6 + 5, none⟩ = some (.int .i64 oo.k.t) := HB.out w2 (.inr h2.out)))
        all_goals clear hcl hcl2 H10 HB
        all_goals go_wp2_with fail
        go_loopw [6] (fun t wr2 => ∃ j : Nat, j ≤ 3 ∧ t = .int .i64 j ∧ Hid (Pl w wr2 a3 a7 hp rp (i + 1))) (fun t _ => 3 - (intOf t).toNat)
        case atStart => exact ⟨0, Nat.zero_le _, rfl, h2.out⟩
        case round =>
          obtain ⟨j, hj, rfl, HJ⟩ := hrel
          clear h2
          by_cases hj3 : j < 3
          · have j3 : (j : Int) < 3 := by omega
            have j0 : 0 ≤ (j : Int) := by omega
            have j4 : ((j : Int)).toNat = j := by omega
            obtain ⟨cn, hA, hB⟩ := HJ.out.len (by have := HN.out; omega) hj3
            have y0 := cp3 HJ.out.z.1 hj3
            have y1 := cp3 HJ.out.z.2 hj3
            have H11 : Hid (∀ w1, Below wr.heap.size wr w1 → Calls Try.prog 11 #[.pointer (some ⟨hp j, 0, none⟩)] w1 fun e w2 => e = .returned (.int .i64 cn) ∧ w2 = w1) := hA
            have H12 : Hid (∀ w1, Below wr.heap.size wr w1 → Calls Try.prog 12 #[.pointer (some ⟨rp j, 0, none⟩)] w1 fun e w2 => e = .returned (.int .i64 cn) ∧ w2 = w1) := hB
            clear hA hB
            go_upto_region 13 with fail
            go_region_held3 (fun w' : World => w'.cell? ⟨a3, j, none⟩ = some (.pointer (some ⟨hp j, 0, none⟩)) ∧ w'.cell? ⟨a7, j, none⟩ = some (.pointer (some ⟨rp j, 0, none⟩))) (first | (with_reducible assumption) | (with_reducible exact ⟨y0, y1⟩) | (exact ⟨y0, y1⟩) | go_keep) (first | (go_at_call 11; refine (H11.out _ (below_dr wr)).mono ?_; rintro e w4 ⟨rfl, rfl⟩) | (go_at_call 12; refine (H12.out _ (below_dr wr)).mono ?_; rintro e w5 ⟨rfl, rfl⟩))
            all_goals go_wp2_with fail
            all_goals exact ⟨⟨j + 1, by omega, by go_num, HJ.out.below (below_dr wr)⟩, by simp [intOf]; omega⟩
          · have hj3' : ¬ (j : Int) < 3 := by omega
            go_wp2_with fail
            exact ⟨⟨i + 1, by omega, by go_num, HJ.out⟩, by simp [intOf]; omega⟩
      · have hil' : ¬ (i : Int) < (O.length : Int) := by omega
        have HD : Hid (Calls Try.prog 13 #[.pointer (some ⟨hp 0, 0, none⟩), .pointer (some ⟨rp 0, 0, none⟩)] wr fun e w2 => e = .returned (.bool true) ∧ Hid ((w2.heap[a3]? = some (.cells (p3 hp) 26 (0, 0)) ∧ w2.heap[a7]? = some (.cells (p3 rp) 31 (0, 0))) ∧ Calls Try.prog 13 #[.pointer (some ⟨hp 1, 0, none⟩), .pointer (some ⟨rp 1, 0, none⟩)] w2 fun e w3 => e = .returned (.bool true) ∧ Hid ((w3.heap[a3]? = some (.cells (p3 hp) 26 (0, 0)) ∧ w3.heap[a7]? = some (.cells (p3 rp) 31 (0, 0))) ∧ Calls Try.prog 13 #[.pointer (some ⟨hp 2, 0, none⟩), .pointer (some ⟨rp 2, 0, none⟩)] w3 fun e w4 => e = .returned (.bool true) ∧ Hid (Below w.heap.size w w4)))) := by
          have hm : i < 1000 := by have := HN.out; omega
          refine (HE.out.drain hm (i := 0) (by omega)).mono ?_
          rintro e w2 ⟨rfl, h2⟩
          refine ⟨rfl, h2.out.z, (h2.out.drain hm (i := 1) (by omega)).mono ?_⟩
          rintro e w3 ⟨rfl, h3⟩
          refine ⟨rfl, h3.out.z, (h3.out.drain hm (i := 2) (by omega)).mono ?_⟩
          rintro e w4 ⟨rfl, h4⟩
          exact ⟨rfl, h4.out.b⟩
        obtain ⟨d0, d1, d2⟩ := c3 HE.out.z.1
        obtain ⟨e0, e1, e2⟩ := c3 HE.out.z.2
        clear HE
        go_wp2_with (first | (go_at_call_of 13 (Value.pointer (some ⟨hp 0, 0, none⟩)); refine HD.out.mono ?_; (first | rintro e w2 rfl h2 | rintro e w2 ⟨rfl, h2⟩); obtain ⟨f0, f1, f2⟩ := c3 h2.out.1.1; obtain ⟨g0, g1, g2⟩ := c3 h2.out.1.2; have HD2 : Hid (Calls Try.prog 13 #[.pointer (some ⟨hp 1, 0, none⟩), .pointer (some ⟨rp 1, 0, none⟩)] w2 fun e w3 => e = .returned (.bool true) ∧ Hid ((w3.heap[a3]? = some (.cells (p3 hp) 26 (0, 0)) ∧ w3.heap[a7]? = some (.cells (p3 rp) 31 (0, 0))) ∧ Calls Try.prog 13 #[.pointer (some ⟨hp 2, 0, none⟩), .pointer (some ⟨rp 2, 0, none⟩)] w3 fun e w4 => e = .returned (.bool true) ∧ Hid (Below w.heap.size w w4))) := h2.out.2; clear h2) | (go_at_call_of 13 (Value.pointer (some ⟨hp 1, 0, none⟩)); refine HD2.out.mono ?_; (first | rintro e w3 rfl h3 | rintro e w3 ⟨rfl, h3⟩); obtain ⟨m0, m1, m2⟩ := c3 h3.out.1.1; obtain ⟨n0, n1, n2⟩ := c3 h3.out.1.2; have HD3 : Hid (Calls Try.prog 13 #[.pointer (some ⟨hp 2, 0, none⟩), .pointer (some ⟨rp 2, 0, none⟩)] w3 fun e w4 => e = .returned (.bool true) ∧ Hid (Below w.heap.size w w4)) := h3.out.2; clear h3) | (go_at_call_of 13 (Value.pointer (some ⟨hp 2, 0, none⟩)); refine HD3.out.mono ?_; first | rintro e w4 rfl h4 | rintro e w4 ⟨rfl, h4⟩))
        go_ret
        exact ⟨rfl, h4.out⟩
end Go.Proofs.Ytmcmldlnmmbbgaa
