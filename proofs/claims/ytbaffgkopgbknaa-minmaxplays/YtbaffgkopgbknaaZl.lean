/-
  MinmaxPlays: step, where both calls stand in one region; ends.
-/
import Derived.Test.YtbaffgkopgbknaaZk
namespace Go.Proofs.Ytbaffgkopgbknaa
open Go.RowKit Go.Maps

theorem Bo9.drew {w0 w : World} {hb rb bx : Nat} {l : List RE} {kd x : Int} {k : K} (h : Bo9 w0 w hb rb bx l kd x k) : Bo9 w0 w.drew hb rb bx l kd x k := ⟨Bm.below h.t (by have b := (Below.refl w.heap.size w); exact ⟨b.os, b.tape, b.output, b.size, b.block⟩), h.z, h.ok, h.wf, h.n⟩
section
variable {w0 w : World} {hb rb : Nat} {l : List RE} {x : Int} {k : K}
set_option maxHeartbeats 4000000 in
set_option maxRecDepth 100000 in
theorem step_6 (h : Hid (Bt w0 w hb rb l NoP)) (hk : k.ok) (hx : (Lit.int .i64 x).wf = true) (hn : l.length < 1048576) : Calls Try.prog 10 #[.pointer (some ⟨hb, 0, none⟩), .pointer (some ⟨rb, 0, none⟩), .agg #[.int .i64 6, .int .i64 x, .int .i64 k.a, .int .i64 k.b, .int .i64 k.c]] w fun e w' => e = .returned (.bool true) ∧ Sr w0 w' hb rb l := by
  have HB0 : Hid (Bo9 w0 (w.alloc (.cells (ob 6 x k) 34)) hb rb w.heap.size l 6 x k) := bo9 h.out 6 x k hk hx hn
  have HN : Hid (l.length < 1048576) := hn
  clear h hk hx hn
  unfold ob at HB0
  have q45 := eq45s
  go_enter Try.func10, Try.ntmps10
  go_upto_region 1 with fail
  generalize w.alloc (.cells #[.int .i64 6, .int .i64 x, .int .i64 k.a, .int .i64 k.b, .int .i64 k.c] 34) = W at *
  generalize w.heap.size = bx at *
  obtain ⟨x0, x1, x2, x3, x4⟩ := c5 HB0.out.z
  obtain ⟨ee, l', hl', hcal⟩ := st6 HB0.out.drew
  have HLL : Hid (l'.length = l.length) := hl'
  have H1 : Hid (Calls Try.prog 17 #[.pointer (some ⟨hb, 0, none⟩), .int .i64 x, .agg #[.int .i64 k.a, .int .i64 k.b, .int .i64 k.c]] W.drew fun e w2 => e = .returned (.int .i64 ee) ∧ Hid (w2.heap[bx]? = some (.cells (ob 6 x k) 34 (0, 0)) ∧ Calls Try.prog 25 #[.pointer (some ⟨rb, 0, none⟩), .int .i64 x, .agg #[.int .i64 k.a, .int .i64 k.b, .int .i64 k.c]] w2 fun e w3 => e = .returned (.int .i64 ee) ∧ Hid (w3.heap[bx]? = some (.cells (ob 6 x k) 34 (0, 0)) ∧ Bt w0 w3 hb rb l' NoP))) := hcal
  clear hcal hl' HB0
  go_upto_region 15 with fail
  go_region_held3 (fun w' : World => w'.cell? ⟨bx, 1, none⟩ = some (.int .i64 x) ∧ w'.cell? ⟨bx, 2, none⟩ = some (.int .i64 k.a) ∧ w'.cell? ⟨bx, 3, none⟩ = some (.int .i64 k.b) ∧ w'.cell? ⟨bx, 4, none⟩ = some (.int .i64 k.c)) (first | (with_reducible assumption) | (with_reducible exact ⟨z1, z2, z3, z4⟩) | (with_reducible exact ⟨y1, y2, y3, y4⟩) | (with_reducible exact ⟨x1, x2, x3, x4⟩) | (exact ⟨x1, x2, x3, x4⟩) | go_keep) (first | (go_at_call 17; refine H1.out.mono ?_; rintro e w2 ⟨rfl, h2⟩; obtain ⟨y0, y1, y2, y3, y4⟩ := c5 h2.out.1; have H2 : Hid (Calls Try.prog 25 #[.pointer (some ⟨rb, 0, none⟩), .int .i64 x, .agg #[.int .i64 k.a, .int .i64 k.b, .int .i64 k.c]] w2 fun e w3 => e = .returned (.int .i64 ee) ∧ Hid (w3.heap[bx]? = some (.cells (ob 6 x k) 34 (0, 0)) ∧ Bt w0 w3 hb rb l' NoP)) := h2.out.2; clear h2) | (go_at_call 25; refine H2.out.mono ?_; rintro e w3 ⟨rfl, h3⟩; obtain ⟨z0, z1, z2, z3, z4⟩ := c5 h3.out.1; have H3 : Hid (Bt w0 w3 hb rb l' NoP) := h3.out.2; clear h3))
  all_goals go_wp2_with fail
  all_goals go_ret
  all_goals exact ⟨by simp, l', by have := HLL.out; omega, H3.out⟩
set_option maxHeartbeats 4000000 in
set_option maxRecDepth 100000 in
theorem step_7 (h : Hid (Bt w0 w hb rb l NoP)) (hk : k.ok) (hx : (Lit.int .i64 x).wf = true) (hn : l.length < 1048576) : Calls Try.prog 10 #[.pointer (some ⟨hb, 0, none⟩), .pointer (some ⟨rb, 0, none⟩), .agg #[.int .i64 7, .int .i64 x, .int .i64 k.a, .int .i64 k.b, .int .i64 k.c]] w fun e w' => e = .returned (.bool true) ∧ Sr w0 w' hb rb l := by
  have HB0 : Hid (Bo9 w0 (w.alloc (.cells (ob 7 x k) 34)) hb rb w.heap.size l 7 x k) := bo9 h.out 7 x k hk hx hn
  have HN : Hid (l.length < 1048576) := hn
  clear h hk hx hn
  unfold ob at HB0
  have q45 := eq45s
  go_enter Try.func10, Try.ntmps10
  go_upto_region 1 with fail
  generalize w.alloc (.cells #[.int .i64 7, .int .i64 x, .int .i64 k.a, .int .i64 k.b, .int .i64 k.c] 34) = W at *
  generalize w.heap.size = bx at *
  obtain ⟨x0, x1, x2, x3, x4⟩ := c5 HB0.out.z
  obtain ⟨ee, l', hl', hcal⟩ := st7 HB0.out.drew
  have HLL : Hid (l'.length = l.length) := hl'
  have H1 : Hid (Calls Try.prog 21 #[.pointer (some ⟨hb, 0, none⟩), .int .i64 x] W.drew fun e w2 => e = .returned (.int .i64 ee) ∧ Hid (w2.heap[bx]? = some (.cells (ob 7 x k) 34 (0, 0)) ∧ Calls Try.prog 26 #[.pointer (some ⟨rb, 0, none⟩), .int .i64 x] w2 fun e w3 => e = .returned (.int .i64 ee) ∧ Hid (w3.heap[bx]? = some (.cells (ob 7 x k) 34 (0, 0)) ∧ Bt w0 w3 hb rb l' NoP))) := hcal
  clear hcal hl' HB0
  go_upto_region 17 with fail
  go_region_held3 (fun w' : World => w'.cell? ⟨bx, 1, none⟩ = some (.int .i64 x) ∧ w'.cell? ⟨bx, 2, none⟩ = some (.int .i64 k.a) ∧ w'.cell? ⟨bx, 3, none⟩ = some (.int .i64 k.b) ∧ w'.cell? ⟨bx, 4, none⟩ = some (.int .i64 k.c)) (first | (with_reducible assumption) | (with_reducible exact ⟨z1, z2, z3, z4⟩) | (with_reducible exact ⟨y1, y2, y3, y4⟩) | (with_reducible exact ⟨x1, x2, x3, x4⟩) | (exact ⟨x1, x2, x3, x4⟩) | go_keep) (first | (go_at_call 21; refine H1.out.mono ?_; rintro e w2 ⟨rfl, h2⟩; obtain ⟨y0, y1, y2, y3, y4⟩ := c5 h2.out.1; have H2 : Hid (Calls Try.prog 26 #[.pointer (some ⟨rb, 0, none⟩), .int .i64 x] w2 fun e w3 => e = .returned (.int .i64 ee) ∧ Hid (w3.heap[bx]? = some (.cells (ob 7 x k) 34 (0, 0)) ∧ Bt w0 w3 hb rb l' NoP)) := h2.out.2; clear h2) | (go_at_call 26; refine H2.out.mono ?_; rintro e w3 ⟨rfl, h3⟩; obtain ⟨z0, z1, z2, z3, z4⟩ := c5 h3.out.1; have H3 : Hid (Bt w0 w3 hb rb l' NoP) := h3.out.2; clear h3))
  all_goals go_wp2_with fail
  all_goals go_ret
  all_goals exact ⟨by simp, l', by have := HLL.out; omega, H3.out⟩
theorem step_any (h : Bt w0 w hb rb l NoP) (kd : Int) (hk : k.ok) (hx : (Lit.int .i64 x).wf = true) (hn : l.length < 1048576) : Calls Try.prog 10 #[.pointer (some ⟨hb, 0, none⟩), .pointer (some ⟨rb, 0, none⟩), .agg #[.int .i64 kd, .int .i64 x, .int .i64 k.a, .int .i64 k.b, .int .i64 k.c]] w fun e w' => e = .returned (.bool true) ∧ Sr w0 w' hb rb l := by
  by_cases n1 : kd = 1
  · subst n1; exact step_1 h hk hx hn
  by_cases n4 : kd = 4
  · subst n4; exact step_4 h hk hx hn
  by_cases n5 : kd = 5
  · subst n5; exact step_5 h hk hx hn
  by_cases n6 : kd = 6
  · subst n6; exact step_6 h hk hx hn
  by_cases n7 : kd = 7
  · subst n7; exact step_7 h hk hx hn
  by_cases n8 : kd = 8
  · subst n8; exact step_8 h hk hx hn
  exact step_x h kd n1 n4 n5 n6 n7 n8 hk hx hn
end
set_option maxHeartbeats 4000000 in
theorem ends_law {w0 w : World} {hb rb : Nat} {l : List RE} (h : Hid (Bt w0 w hb rb l NoP)) (hn : l.length < 1048576) : Calls Try.prog 11 #[.pointer (some ⟨hb, 0, none⟩), .pointer (some ⟨rb, 0, none⟩)] w fun e w' => e = .returned (.bool true) ∧ Below w.heap.size w w' := by
  obtain ⟨y, k1, ee, hM, hR⟩ := stE h.out hn false
  obtain ⟨y2, k2, e2, hM2, hR2⟩ := stE h.out hn true
  have HM : Hid (∀ w1, Below w.heap.size w w1 → Calls Try.prog 19 #[.pointer (some ⟨hb, 0, none⟩)] w1 fun e w2 => e = .returned (.tuple #[.int .i64 y, .agg #[.int .i64 k1.a, .int .i64 k1.b, .int .i64 k1.c], .int .i64 ee]) ∧ Below w1.heap.size w1 w2) := hM
  have HR : Hid (∀ w1, Below w.heap.size w w1 → Calls Try.prog 28 #[.pointer (some ⟨rb, 0, none⟩), .bool false] w1 fun e w2 => e = .returned (.tuple #[.int .i64 y, .agg #[.int .i64 k1.a, .int .i64 k1.b, .int .i64 k1.c], .int .i64 ee]) ∧ Below w1.heap.size w1 w2) := hR
  have HM2 : Hid (∀ w1, Below w.heap.size w w1 → Calls Try.prog 20 #[.pointer (some ⟨hb, 0, none⟩)] w1 fun e w2 => e = .returned (.tuple #[.int .i64 y2, .agg #[.int .i64 k2.a, .int .i64 k2.b, .int .i64 k2.c], .int .i64 e2]) ∧ Below w1.heap.size w1 w2) := hM2
  have HR2 : Hid (∀ w1, Below w.heap.size w w1 → Calls Try.prog 28 #[.pointer (some ⟨rb, 0, none⟩), .bool true] w1 fun e w2 => e = .returned (.tuple #[.int .i64 y2, .agg #[.int .i64 k2.a, .int .i64 k2.b, .int .i64 k2.c], .int .i64 e2]) ∧ Below w1.heap.size w1 w2) := hR2
  have HL : Hid (∀ w1, Below w.heap.size w w1 → (Calls Try.prog 16 #[.pointer (some ⟨hb, 0, none⟩)] w1 fun e w2 => e = .returned (.int .i64 (rcount l : Nat)) ∧ w2 = w1) ∧ Calls Try.prog 29 #[.pointer (some ⟨rb, 0, none⟩)] w1 fun e w2 => e = .returned (.int .i64 (rcount l : Nat)) ∧ w2 = w1) := fun w1 b1 => stL (Bm.below h.out b1) hn
  have H24 : Hid (∀ n e (k : K) w, Calls Try.prog 24 #[.int .i64 n, .agg #[.int .i64 k.a, .int .i64 k.b, .int .i64 k.c], .int .i64 e, .int .i64 n, .agg #[.int .i64 k.a, .int .i64 k.b, .int .i64 k.c], .int .i64 e] w fun r w' => r = .returned (.bool true) ∧ Below w.heap.size w w') := told_any
  clear hM hR hM2 hR2 h hn
  generalize rcount l = cn at *
  have M1 := HM.out w (Below.refl _ _)
  go_enter Try.func11, Try.ntmps11
  go_upto_region 2 with (go_at_call 19; refine M1.mono ?_; rintro e w1 ⟨rfl, b1⟩)
  have B2 : Hid (Below w.heap.size w (w1.alloc (.cells #[.int .i64 k1.a, .int .i64 k1.b, .int .i64 k1.c] 32))) := b1.alloc b1.size _
  have Z2 : Hid ((w1.alloc (.cells #[.int .i64 k1.a, .int .i64 k1.b, .int .i64 k1.c] 32)).heap[w1.heap.size]? = some (.cells #[.int .i64 k1.a, .int .i64 k1.b, .int .i64 k1.c] 32 (0, 0))) := new0
  have L2 : Hid (w.heap.size ≤ w1.heap.size) := b1.size
  generalize w1.alloc (.cells #[.int .i64 k1.a, .int .i64 k1.b, .int .i64 k1.c] 32) = W2 at *
  generalize w1.heap.size = ka at *
  clear b1 M1
  have R1 := HR.out W2 B2.out
  go_upto_region 3 with (go_at_call 28; refine R1.mono ?_; rintro e w3 ⟨rfl, b3⟩)
  have B4 : Hid (Below w.heap.size w (w3.alloc (.cells #[.int .i64 k1.a, .int .i64 k1.b, .int .i64 k1.c] 45))) := (B2.out.trans (b3.mono B2.out.size)).alloc (Nat.le_trans B2.out.size b3.size) _
  have Z4 : Hid ((w3.alloc (.cells #[.int .i64 k1.a, .int .i64 k1.b, .int .i64 k1.c] 45)).heap[ka]? = some (.cells #[.int .i64 k1.a, .int .i64 k1.b, .int .i64 k1.c] 32 (0, 0))) := at_alloc (at_below b3 (Nat.le_refl _) Z2.out)
  have Z5 : Hid ((w3.alloc (.cells #[.int .i64 k1.a, .int .i64 k1.b, .int .i64 k1.c] 45)).heap[w3.heap.size]? = some (.cells #[.int .i64 k1.a, .int .i64 k1.b, .int .i64 k1.c] 45 (0, 0))) := new0
  have L4 : Hid (w.heap.size ≤ w3.heap.size ∧ ka < w3.heap.size) := ⟨Nat.le_trans B2.out.size b3.size, Nat.lt_of_lt_of_le (Array.getElem?_eq_some_iff.1 Z2.out).1 b3.size⟩
  generalize w3.alloc (.cells #[.int .i64 k1.a, .int .i64 k1.b, .int .i64 k1.c] 45) = W4 at *
  generalize w3.heap.size = kb at *
  clear b3 R1 B2 Z2
  obtain ⟨y0, y1, y2'⟩ := c3 Z4.out
  obtain ⟨z0, z1, z2⟩ := c3 Z5.out
  have T1 := H24.out y ee k1 W4
  go_upto_region 5 with (go_at_call 24; refine T1.mono ?_; rintro e w5 ⟨rfl, b5⟩)
  have B5 : Hid (Below w.heap.size w w5) := B4.out.trans (b5.mono B4.out.size)
  have Z6 : Hid (w5.heap[ka]? = some (.cells #[.int .i64 k1.a, .int .i64 k1.b, .int .i64 k1.c] 32 (0, 0))) := at_below b5 (Nat.le_refl _) Z4.out
  have Z7 : Hid (w5.heap[kb]? = some (.cells #[.int .i64 k1.a, .int .i64 k1.b, .int .i64 k1.c] 45 (0, 0))) := at_below b5 (Nat.le_refl _) Z5.out
  clear b5 T1 y0 y1 y2' z0 z1 z2 B4 Z4 Z5
  have M2 := HM2.out w5 B5.out
  go_upto_region 6 with (go_at_call 20; refine M2.mono ?_; rintro e w6 ⟨rfl, b6⟩; have Z8 : Hid (w6.heap[ka]? = some (.cells #[.int .i64 k1.a, .int .i64 k1.b, .int .i64 k1.c] 32 (0, 0))) := at_below b6 (Nat.le_refl _) Z6.out; have Z9 : Hid (w6.heap[kb]? = some (.cells #[.int .i64 k1.a, .int .i64 k1.b, .int .i64 k1.c] 45 (0, 0))) := at_below b6 (Nat.le_refl _) Z7.out; have B6 : Hid (Below w.heap.size w w6) := B5.out.trans (b6.mono B5.out.size); obtain ⟨y0, y1, y2'⟩ := c3 Z8.out; obtain ⟨f0, f1, f2⟩ := f3 Z8.out; clear b6)
  have Z10 : Hid ((st3 w6 ka k2).heap[ka]? = some (.cells (kc k2) 32 (0, 0))) := st3_at (k := k1) Z8.out
  have Z11 : Hid ((st3 w6 ka k2).heap[kb]? = some (.cells (kc k1) 45 (0, 0))) := (st3_other (by have := L4.out; omega)).trans Z9.out
  have B7 : Hid (Below w.heap.size w (st3 w6 ka k2)) := ((B6.out.setCell (p := ⟨ka, 0, none⟩) L2.out _).setCell (p := ⟨ka, 1, none⟩) L2.out _).setCell (p := ⟨ka, 2, none⟩) L2.out _
  rw [show ((w6.setCell ⟨ka, 0, none⟩ (.int .i64 k2.a)).setCell ⟨ka, 1, none⟩ (.int .i64 k2.b)).setCell ⟨ka, 2, none⟩ (.int .i64 k2.c) = st3 w6 ka k2 from rfl]
  generalize st3 w6 ka k2 = W7 at *
  clear y0 y1 y2' f0 f1 f2 Z8 Z9 B6 M2 Z6 Z7
  have R2 := HR2.out W7 B7.out
  go_upto_region 7 with (go_at_call 28; refine R2.mono ?_; rintro e w8 ⟨rfl, b8⟩; have Z12 : Hid (w8.heap[ka]? = some (.cells (kc k2) 32 (0, 0))) := at_below b8 (Nat.le_refl _) Z10.out; have Z13 : Hid (w8.heap[kb]? = some (.cells (kc k1) 45 (0, 0))) := at_below b8 (Nat.le_refl _) Z11.out; have B8 : Hid (Below w.heap.size w w8) := B7.out.trans (b8.mono B7.out.size); obtain ⟨y0, y1, y2'⟩ := c3 Z13.out; obtain ⟨f0, f1, f2⟩ := f3 Z13.out; clear b8)
  have Z14 : Hid ((st3 w8 kb k2).heap[ka]? = some (.cells (kc k2) 32 (0, 0))) := (st3_other (by have := L4.out; omega)).trans Z12.out
  have Z15 : Hid ((st3 w8 kb k2).heap[kb]? = some (.cells (kc k2) 45 (0, 0))) := st3_at (k := k1) Z13.out
  have B9 : Hid (Below w.heap.size w (st3 w8 kb k2)) := ((B8.out.setCell (p := ⟨kb, 0, none⟩) L4.out.1 _).setCell (p := ⟨kb, 1, none⟩) L4.out.1 _).setCell (p := ⟨kb, 2, none⟩) L4.out.1 _
  rw [show ((w8.setCell ⟨kb, 0, none⟩ (.int .i64 k2.a)).setCell ⟨kb, 1, none⟩ (.int .i64 k2.b)).setCell ⟨kb, 2, none⟩ (.int .i64 k2.c) = st3 w8 kb k2 from rfl]
  generalize st3 w8 kb k2 = W9 at *
  clear y0 y1 y2' f0 f1 f2 Z10 Z11 Z12 Z13 B8 R2
  obtain ⟨y0, y1, y2'⟩ := c3 Z14.out
  obtain ⟨z0, z1, z2⟩ := c3 Z15.out
  have T2 := H24.out y2 e2 k2 W9
  go_wp2_with (first | (go_at_call 24; refine T2.mono ?_; rintro e w10 ⟨rfl, b10⟩; have B10 : Hid (Below w.heap.size w w10) := B9.out.trans (b10.mono B9.out.size); have L16 := (HL.out w10 B10.out).1; have L29 := (HL.out w10 B10.out).2; clear b10) | (go_at_call 16; refine L16.mono ?_; rintro e w11 ⟨rfl, rfl⟩) | (go_at_call 29; refine L29.mono ?_; rintro e w12 ⟨rfl, rfl⟩))
  go_ret
  exact ⟨by simp, B10.out⟩
end Go.Proofs.Ytbaffgkopgbknaa
