/-
  MinmaxPlays: step.
-/
import Derived.Test.YtbaffgkopgbknaaZj
namespace Go.Proofs.Ytbaffgkopgbknaa
open Go.RowKit Go.Maps

theorem c5 {w : World} {g : Nat} {a b c d e : Value} {t : TypeId} (h : w.heap[g]? = some (.cells #[a, b, c, d, e] t (0, 0))) : w.cell? ⟨g, 0, none⟩ = some a ∧ w.cell? ⟨g, 1, none⟩ = some b ∧ w.cell? ⟨g, 2, none⟩ = some c ∧ w.cell? ⟨g, 3, none⟩ = some d ∧ w.cell? ⟨g, 4, none⟩ = some e := by
  unfold World.cell?
  rw [h]
  simp
theorem bo9 {w0 w : World} {hb rb : Nat} {l : List RE} (h : Bt w0 w hb rb l NoP) (kd x : Int) (k : K) (hk : k.ok) (hx : (Lit.int .i64 x).wf = true) (hn : l.length < 1048576) : Bo9 w0 (w.alloc (.cells (ob kd x k) 34)) hb rb w.heap.size l kd x k := ⟨(Bm.box h _).less fun _ q => .inr q, new0, hk, hx, hn⟩
/-- behind a step -/
def Sr (w0 w : World) (hb rb : Nat) (l : List RE) : Prop := ∃ l', l'.length ≤ l.length + 1 ∧ Bt w0 w hb rb l' NoP
section
variable {w0 w : World} {hb rb : Nat} {l : List RE} {x : Int} {k : K}
set_option maxHeartbeats 4000000 in
set_option maxRecDepth 100000 in
theorem step_1 (h : Hid (Bt w0 w hb rb l NoP)) (hk : k.ok) (hx : (Lit.int .i64 x).wf = true) (hn : l.length < 1048576) : Calls Try.prog 10 #[.pointer (some ⟨hb, 0, none⟩), .pointer (some ⟨rb, 0, none⟩), .agg #[.int .i64 1, .int .i64 x, .int .i64 k.a, .int .i64 k.b, .int .i64 k.c]] w fun e w' => e = .returned (.bool true) ∧ Sr w0 w' hb rb l := by
  have HB0 : Hid (Bo9 w0 (w.alloc (.cells (ob 1 x k) 34)) hb rb w.heap.size l 1 x k) := bo9 h.out 1 x k hk hx hn
  have HN : Hid (l.length < 1048576) := hn
  clear h hk hx hn
  unfold ob at HB0
  have q45 := eq45s
  go_enter Try.func10, Try.ntmps10
  go_upto_region 1 with fail
  generalize w.alloc (.cells #[.int .i64 1, .int .i64 x, .int .i64 k.a, .int .i64 k.b, .int .i64 k.c] 34) = W at *
  generalize w.heap.size = bx at *
  obtain ⟨x0, x1, x2, x3, x4⟩ := c5 HB0.out.z
  have H12 := st1 HB0.out
  have H12' : Hid (Calls Try.prog 12 #[.pointer (some ⟨hb, 0, none⟩), .agg #[.int .i64 k.a, .int .i64 k.b, .int .i64 k.c]] W fun e w2 => e = .returned (.tuple #[.int .i64 l.length, .int .i64 0]) ∧ Hid (w2.heap[bx]? = some (.cells (ob 1 x k) 34 (0, 0)) ∧ Calls Try.prog 22 #[.pointer (some ⟨rb, 0, none⟩), .agg #[.int .i64 k.a, .int .i64 k.b, .int .i64 k.c]] w2 fun e w3 => e = .returned (.tuple #[.int .i64 l.length, .int .i64 0]) ∧ Hid (Bt w0 w3 hb rb (l ++ [⟨k, true⟩]) NoP))) := H12
  clear H12 HB0
  go_upto_region 4 with (go_at_call 12; refine H12'.out.mono ?_; first | rintro e w2 rfl h2 | rintro e w2 ⟨rfl, h2⟩)
  clear x0 x1 x2 x3 x4
  obtain ⟨x0, x1, x2, x3, x4⟩ := c5 h2.out.1
  have H22 : Hid (Calls Try.prog 22 #[.pointer (some ⟨rb, 0, none⟩), .agg #[.int .i64 k.a, .int .i64 k.b, .int .i64 k.c]] w2 fun e w3 => e = .returned (.tuple #[.int .i64 l.length, .int .i64 0]) ∧ Hid (Bt w0 w3 hb rb (l ++ [⟨k, true⟩]) NoP)) := h2.out.2
  clear h2
  go_wp2_with (go_at_call 22; refine H22.out.mono ?_; first | rintro e w3 rfl h3 | rintro e w3 ⟨rfl, h3⟩)
  go_ret
  exact ⟨by simp, _, by rw [List.length_append]; exact Nat.le_refl _, h3.out⟩
set_option maxHeartbeats 4000000 in
set_option maxRecDepth 100000 in
theorem step_4 (h : Hid (Bt w0 w hb rb l NoP)) (hk : k.ok) (hx : (Lit.int .i64 x).wf = true) (hn : l.length < 1048576) : Calls Try.prog 10 #[.pointer (some ⟨hb, 0, none⟩), .pointer (some ⟨rb, 0, none⟩), .agg #[.int .i64 4, .int .i64 x, .int .i64 k.a, .int .i64 k.b, .int .i64 k.c]] w fun e w' => e = .returned (.bool true) ∧ Sr w0 w' hb rb l := by
  have HB0 : Hid (Bo9 w0 (w.alloc (.cells (ob 4 x k) 34)) hb rb w.heap.size l 4 x k) := bo9 h.out 4 x k hk hx hn
  have HN : Hid (l.length < 1048576) := hn
  clear h hk hx hn
  unfold ob at HB0
  have q45 := eq45s
  go_enter Try.func10, Try.ntmps10
  go_upto_region 1 with fail
  generalize w.alloc (.cells #[.int .i64 4, .int .i64 x, .int .i64 k.a, .int .i64 k.b, .int .i64 k.c] 34) = W at *
  generalize w.heap.size = bx at *
  obtain ⟨x0, x1, x2, x3, x4⟩ := c5 HB0.out.z
  obtain ⟨y, k1, ee, l', hl', hpop⟩ := stP HB0.out false
  have HLL : Hid (l'.length = l.length) := hl'
  have HP : Hid (Calls Try.prog 13 #[.pointer (some ⟨hb, 0, none⟩)] W fun e w2 => e = .returned (.tuple #[.int .i64 y, .agg #[.int .i64 k1.a, .int .i64 k1.b, .int .i64 k1.c], .int .i64 ee]) ∧ Hid (∀ w3, w3 = w2.alloc (.cells (kc k1) 32) → Calls Try.prog 23 #[.pointer (some ⟨rb, 0, none⟩), .bool false] w3 fun e w4 => e = .returned (.tuple #[.int .i64 y, .agg #[.int .i64 k1.a, .int .i64 k1.b, .int .i64 k1.c], .int .i64 ee]) ∧ Hid (w4.heap[w2.heap.size]? = some (.cells (kc k1) 32 (0, 0)) ∧ Bt w0 w4 hb rb l' NoP))) := hpop
  clear hpop HB0 hl'
  go_upto_region 8 with (go_at_call 13; refine HP.out.mono ?_; first | rintro e w2 rfl h2 | rintro e w2 ⟨rfl, h2⟩)
  clear x0 x1 x2 x3 x4
  have HQ : Hid (Calls Try.prog 23 #[.pointer (some ⟨rb, 0, none⟩), .bool false] (w2.alloc (.cells #[.int .i64 k1.a, .int .i64 k1.b, .int .i64 k1.c] 32)) fun e w4 => e = .returned (.tuple #[.int .i64 y, .agg #[.int .i64 k1.a, .int .i64 k1.b, .int .i64 k1.c], .int .i64 ee]) ∧ Hid (w4.heap[w2.heap.size]? = some (.cells (kc k1) 32 (0, 0)) ∧ Bt w0 w4 hb rb l' NoP)) := h2.out _ rfl
  generalize w2.alloc (.cells #[.int .i64 k1.a, .int .i64 k1.b, .int .i64 k1.c] 32) = W4 at *
  generalize w2.heap.size = kb at *
  clear HP h2
  go_upto_region 9 with (go_at_call 23; refine HQ.out.mono ?_; first | rintro e w5 rfl h5 | rintro e w5 ⟨rfl, h5⟩)
  have T6 : Hid (Bt w0 (w5.alloc (.cells #[.int .i64 k1.a, .int .i64 k1.b, .int .i64 k1.c] 45)) hb rb l' NoP) := (Bm.box h5.out.2 _).less nofun
  obtain ⟨y0, y1, y2⟩ := c3 (at_alloc (o' := .cells #[.int .i64 k1.a, .int .i64 k1.b, .int .i64 k1.c] 45) h5.out.1)
  obtain ⟨z0, z1, z2⟩ := c3 (w := w5.alloc (.cells #[.int .i64 k1.a, .int .i64 k1.b, .int .i64 k1.c] 45)) (g := w5.heap.size) new0
  generalize w5.alloc (.cells #[.int .i64 k1.a, .int .i64 k1.b, .int .i64 k1.c] 45) = W6 at *
  generalize w5.heap.size = kb2 at *
  clear h5 HQ
  have H24 : Hid (∀ w, Calls Try.prog 24 #[.int .i64 y, .agg #[.int .i64 k1.a, .int .i64 k1.b, .int .i64 k1.c], .int .i64 ee, .int .i64 y, .agg #[.int .i64 k1.a, .int .i64 k1.b, .int .i64 k1.c], .int .i64 ee] w fun r w' => r = .returned (.bool true) ∧ Below w.heap.size w w') := told_any y ee k1
  go_wp2_with (go_at_call 24; refine (H24.out _).mono ?_; rintro e w7 ⟨rfl, b7⟩)
  go_ret
  exact ⟨rfl, l', by have := HLL.out; omega, Bm.below T6.out b7⟩
set_option maxHeartbeats 4000000 in
set_option maxRecDepth 100000 in
theorem step_5 (h : Hid (Bt w0 w hb rb l NoP)) (hk : k.ok) (hx : (Lit.int .i64 x).wf = true) (hn : l.length < 1048576) : Calls Try.prog 10 #[.pointer (some ⟨hb, 0, none⟩), .pointer (some ⟨rb, 0, none⟩), .agg #[.int .i64 5, .int .i64 x, .int .i64 k.a, .int .i64 k.b, .int .i64 k.c]] w fun e w' => e = .returned (.bool true) ∧ Sr w0 w' hb rb l := by
  have HB0 : Hid (Bo9 w0 (w.alloc (.cells (ob 5 x k) 34)) hb rb w.heap.size l 5 x k) := bo9 h.out 5 x k hk hx hn
  have HN : Hid (l.length < 1048576) := hn
  clear h hk hx hn
  unfold ob at HB0
  have q45 := eq45s
  go_enter Try.func10, Try.ntmps10
  go_upto_region 1 with fail
  generalize w.alloc (.cells #[.int .i64 5, .int .i64 x, .int .i64 k.a, .int .i64 k.b, .int .i64 k.c] 34) = W at *
  generalize w.heap.size = bx at *
  obtain ⟨x0, x1, x2, x3, x4⟩ := c5 HB0.out.z
  obtain ⟨y, k1, ee, l', hl', hpop⟩ := stP HB0.out true
  have HLL : Hid (l'.length = l.length) := hl'
  have HP : Hid (Calls Try.prog 14 #[.pointer (some ⟨hb, 0, none⟩)] W fun e w2 => e = .returned (.tuple #[.int .i64 y, .agg #[.int .i64 k1.a, .int .i64 k1.b, .int .i64 k1.c], .int .i64 ee]) ∧ Hid (∀ w3, w3 = w2.alloc (.cells (kc k1) 32) → Calls Try.prog 23 #[.pointer (some ⟨rb, 0, none⟩), .bool true] w3 fun e w4 => e = .returned (.tuple #[.int .i64 y, .agg #[.int .i64 k1.a, .int .i64 k1.b, .int .i64 k1.c], .int .i64 ee]) ∧ Hid (w4.heap[w2.heap.size]? = some (.cells (kc k1) 32 (0, 0)) ∧ Bt w0 w4 hb rb l' NoP))) := hpop
  clear hpop HB0 hl'
  go_upto_region 12 with (go_at_call 14; refine HP.out.mono ?_; first | rintro e w2 rfl h2 | rintro e w2 ⟨rfl, h2⟩)
  clear x0 x1 x2 x3 x4
  have HQ : Hid (Calls Try.prog 23 #[.pointer (some ⟨rb, 0, none⟩), .bool true] (w2.alloc (.cells #[.int .i64 k1.a, .int .i64 k1.b, .int .i64 k1.c] 32)) fun e w4 => e = .returned (.tuple #[.int .i64 y, .agg #[.int .i64 k1.a, .int .i64 k1.b, .int .i64 k1.c], .int .i64 ee]) ∧ Hid (w4.heap[w2.heap.size]? = some (.cells (kc k1) 32 (0, 0)) ∧ Bt w0 w4 hb rb l' NoP)) := h2.out _ rfl
  generalize w2.alloc (.cells #[.int .i64 k1.a, .int .i64 k1.b, .int .i64 k1.c] 32) = W4 at *
  generalize w2.heap.size = kb at *
  clear HP h2
  go_upto_region 13 with (go_at_call 23; refine HQ.out.mono ?_; first | rintro e w5 rfl h5 | rintro e w5 ⟨rfl, h5⟩)
  have T6 : Hid (Bt w0 (w5.alloc (.cells #[.int .i64 k1.a, .int .i64 k1.b, .int .i64 k1.c] 45)) hb rb l' NoP) := (Bm.box h5.out.2 _).less nofun
  obtain ⟨y0, y1, y2⟩ := c3 (at_alloc (o' := .cells #[.int .i64 k1.a, .int .i64 k1.b, .int .i64 k1.c] 45) h5.out.1)
  obtain ⟨z0, z1, z2⟩ := c3 (w := w5.alloc (.cells #[.int .i64 k1.a, .int .i64 k1.b, .int .i64 k1.c] 45)) (g := w5.heap.size) new0
  generalize w5.alloc (.cells #[.int .i64 k1.a, .int .i64 k1.b, .int .i64 k1.c] 45) = W6 at *
  generalize w5.heap.size = kb2 at *
  clear h5 HQ
  have H24 : Hid (∀ w, Calls Try.prog 24 #[.int .i64 y, .agg #[.int .i64 k1.a, .int .i64 k1.b, .int .i64 k1.c], .int .i64 ee, .int .i64 y, .agg #[.int .i64 k1.a, .int .i64 k1.b, .int .i64 k1.c], .int .i64 ee] w fun r w' => r = .returned (.bool true) ∧ Below w.heap.size w w') := told_any y ee k1
  go_wp2_with (go_at_call 24; refine (H24.out _).mono ?_; rintro e w7 ⟨rfl, b7⟩)
  go_ret
  exact ⟨rfl, l', by have := HLL.out; omega, Bm.below T6.out b7⟩
set_option maxHeartbeats 4000000 in
set_option maxRecDepth 100000 in
theorem step_8 (h : Hid (Bt w0 w hb rb l NoP)) (hk : k.ok) (hx : (Lit.int .i64 x).wf = true) (hn : l.length < 1048576) : Calls Try.prog 10 #[.pointer (some ⟨hb, 0, none⟩), .pointer (some ⟨rb, 0, none⟩), .agg #[.int .i64 8, .int .i64 x, .int .i64 k.a, .int .i64 k.b, .int .i64 k.c]] w fun e w' => e = .returned (.bool true) ∧ Sr w0 w' hb rb l := by
  have HB0 : Hid (Bo9 w0 (w.alloc (.cells (ob 8 x k) 34)) hb rb w.heap.size l 8 x k) := bo9 h.out 8 x k hk hx hn
  have HN : Hid (l.length < 1048576) := hn
  clear h hk hx hn
  unfold ob at HB0
  have q45 := eq45s
  go_enter Try.func10, Try.ntmps10
  go_upto_region 1 with fail
  generalize w.alloc (.cells #[.int .i64 8, .int .i64 x, .int .i64 k.a, .int .i64 k.b, .int .i64 k.c] 34) = W at *
  generalize w.heap.size = bx at *
  obtain ⟨x0, x1, x2, x3, x4⟩ := c5 HB0.out.z
  obtain ⟨k1, ee, hget⟩ := st8 HB0.out
  have HP : Hid (Calls Try.prog 18 #[.pointer (some ⟨hb, 0, none⟩), .int .i64 x] W fun e w2 => e = .returned (.tuple #[.agg #[.int .i64 k1.a, .int .i64 k1.b, .int .i64 k1.c], .int .i64 ee]) ∧ Hid (∀ w3, w3 = w2.alloc (.cells (kc k1) 32) → w3.heap[bx]? = some (.cells (ob 8 x k) 34 (0, 0)) ∧ Calls Try.prog 27 #[.pointer (some ⟨rb, 0, none⟩), .int .i64 x] w3 fun e w4 => e = .returned (.tuple #[.agg #[.int .i64 k1.a, .int .i64 k1.b, .int .i64 k1.c], .int .i64 ee]) ∧ Hid (w4.heap[w2.heap.size]? = some (.cells (kc k1) 32 (0, 0)) ∧ Bt w0 w4 hb rb l NoP))) := hget
  clear hget HB0
  go_upto_region 20 with (go_at_call 18; refine HP.out.mono ?_; first | rintro e w2 rfl h2 | rintro e w2 ⟨rfl, h2⟩)
  clear x0 x1 x2 x3 x4
  obtain ⟨hz, hq⟩ := h2.out _ rfl
  have HQ : Hid (Calls Try.prog 27 #[.pointer (some ⟨rb, 0, none⟩), .int .i64 x] (w2.alloc (.cells #[.int .i64 k1.a, .int .i64 k1.b, .int .i64 k1.c] 32)) fun e w4 => e = .returned (.tuple #[.agg #[.int .i64 k1.a, .int .i64 k1.b, .int .i64 k1.c], .int .i64 ee]) ∧ Hid (w4.heap[w2.heap.size]? = some (.cells (kc k1) 32 (0, 0)) ∧ Bt w0 w4 hb rb l NoP)) := hq
  have HZ : Hid ((w2.alloc (.cells #[.int .i64 k1.a, .int .i64 k1.b, .int .i64 k1.c] 32)).heap[bx]? = some (.cells (ob 8 x k) 34 (0, 0))) := hz
  generalize w2.alloc (.cells #[.int .i64 k1.a, .int .i64 k1.b, .int .i64 k1.c] 32) = W4 at *
  generalize w2.heap.size = kb at *
  clear HP h2 hz hq
  obtain ⟨x0, x1, x2, x3, x4⟩ := c5 HZ.out
  go_upto_region 21 with (go_at_call 27; refine HQ.out.mono ?_; first | rintro e w5 rfl h5 | rintro e w5 ⟨rfl, h5⟩)
  have T6 : Hid (Bt w0 (w5.alloc (.cells #[.int .i64 k1.a, .int .i64 k1.b, .int .i64 k1.c] 45)) hb rb l NoP) := (Bm.box h5.out.2 _).less nofun
  obtain ⟨y0, y1, y2⟩ := c3 (at_alloc (o' := .cells #[.int .i64 k1.a, .int .i64 k1.b, .int .i64 k1.c] 45) h5.out.1)
  obtain ⟨z0, z1, z2⟩ := c3 (w := w5.alloc (.cells #[.int .i64 k1.a, .int .i64 k1.b, .int .i64 k1.c] 45)) (g := w5.heap.size) new0
  generalize w5.alloc (.cells #[.int .i64 k1.a, .int .i64 k1.b, .int .i64 k1.c] 45) = W6 at *
  generalize w5.heap.size = kb2 at *
  clear h5 HQ x0 x1 x2 x3 x4 HZ
  go_wp2_with fail
  go_ret
  exact ⟨by simp, l, by omega, T6.out⟩
set_option maxHeartbeats 4000000 in
set_option maxRecDepth 100000 in
theorem step_x (h : Hid (Bt w0 w hb rb l NoP)) (kd : Int) (n1 : ¬ kd = 1) (n4 : ¬ kd = 4) (n5 : ¬ kd = 5) (n6 : ¬ kd = 6) (n7 : ¬ kd = 7) (n8 : ¬ kd = 8) (hk : k.ok) (hx : (Lit.int .i64 x).wf = true) (hn : l.length < 1048576) : Calls Try.prog 10 #[.pointer (some ⟨hb, 0, none⟩), .pointer (some ⟨rb, 0, none⟩), .agg #[.int .i64 kd, .int .i64 x, .int .i64 k.a, .int .i64 k.b, .int .i64 k.c]] w fun e w' => e = .returned (.bool true) ∧ Sr w0 w' hb rb l := by
  have HB0 : Hid (Bo9 w0 (w.alloc (.cells (ob kd x k) 34)) hb rb w.heap.size l kd x k) := bo9 h.out kd x k hk hx hn
  have HN : Hid (l.length < 1048576) := hn
  clear h hk hx hn
  unfold ob at HB0
  have q45 := eq45s
  go_enter Try.func10, Try.ntmps10
  go_upto_region 1 with fail
  generalize w.alloc (.cells #[.int .i64 kd, .int .i64 x, .int .i64 k.a, .int .i64 k.b, .int .i64 k.c] 34) = W at *
  generalize w.heap.size = bx at *
  obtain ⟨x0, x1, x2, x3, x4⟩ := c5 HB0.out.z
  have T0 : Hid (Bt w0 W hb rb l NoP) := Bm.less HB0.out.t nofun
  clear HB0
  go_wp2_with fail
  go_ret
  exact ⟨rfl, l, by omega, T0.out⟩
end
end Go.Proofs.Ytbaffgkopgbknaa
