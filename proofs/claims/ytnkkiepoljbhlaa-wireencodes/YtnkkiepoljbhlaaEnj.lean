/-
  Records as bytes: the reference's Encode of the kinds that have no list.
-/
import Derived.Test.YtnkkiepoljbhlaaEni
import Derived.Test.YtnkkiepoljbhlaaFme
set_option linter.unusedSimpArgs false
namespace Go.Proofs.Ytnkkiepoljbhlaa
open Go.RowKit

section
variable {B bx : Nat} {w W : World} {box : Obj} {q : Option Addr} {k c : Nat} {l : List UInt8}
theorem rwg_num (h : Wg B w W bx box (.slice q k c) l) (hB : B ≤ w.heap.size) (hne : ∀ cs, box ≠ Obj.cells cs 5 (0, 0)) (x : Int) (hx : 0 ≤ x ∧ x < 9223372036854775808) (hk : l.length ≤ 35184372088832) :
    Calls Try.prog 24 #[.slice q k c, .int .i64 x] W fun e w' => ∃ q' k' c', e = .returned (.slice q' k' c') ∧ Hid (Wg B w w' bx box (.slice q' k' c') (l ++ numI x)) := by
  have := (own_parts h.o).2.2
  refine (refNum1 B x k q c l W hx h.o (Nat.le_trans hB h.b.size) (by omega)).mono ?_
  rintro e w' ⟨q', k', c', rfl, o, b⟩
  exact ⟨q', k', c', rfl, h.next hne o b⟩
theorem rwg_txt (h : Wg B w W bx box (.slice q k c) l) (hB : B ≤ w.heap.size) (hne : ∀ cs, box ≠ Obj.cells cs 5 (0, 0)) (s : ByteArray) (hs : s.size ≤ 35184372088832) (hk : l.length ≤ 35184372088832) :
    Calls Try.prog 23 #[.slice q k c, .string s] W fun e w' => ∃ q' k' c', e = .returned (.slice q' k' c') ∧ Hid (Wg B w w' bx box (.slice q' k' c') (l ++ txtB s)) := by
  have := (own_parts h.o).2.2
  refine (refTxt1 B k q c l s W h.o (Nat.le_trans hB h.b.size) (by omega) hs).mono ?_
  rintro e w' ⟨q', k', c', rfl, o, b⟩
  exact ⟨q', k', c', rfl, h.next hne o b⟩
theorem rwg_vec (h : Wg B w W bx box (.slice q k c) l) (hB : B ≤ w.heap.size) (hne : ∀ cs, box ≠ Obj.cells cs 5 (0, 0)) (v : V4) (hv : v.pos) (hk : l.length ≤ 35184372088832) :
    Calls Try.prog 25 #[.slice q k c, .agg #[.int .i64 v.a, .int .i64 v.b, .int .i64 v.c, .int .i64 v.d]] W fun e w' => ∃ q' k' c', e = .returned (.slice q' k' c') ∧ Hid (Wg B w w' bx box (.slice q' k' c') (l ++ vecB v)) := by
  have := (own_parts h.o).2.2
  refine (refVec1 B k q c l v W hv h.o (Nat.le_trans hB h.b.size) (by omega)).mono ?_
  rintro e w' ⟨q', k', c', rfl, o, b⟩
  exact ⟨q', k', c', rfl, h.next hne o b⟩
end
theorem size32p (p : PL) : (Try.prog.info? 32).map (·.size) = some p.cells.size := size32
/-- the box of a record's plain form, and a row that is begun with its kind -/
theorem rwg_start {w w1 : World} (p : PL) (b : Below (w.alloc (.cells p.cells 32)).heap.size (w.alloc (.cells p.cells 32)) w1) (K : UInt8) : Wg w.heap.size w (w1.alloc (.cells #[.int .u8 K.toNat] 5)) w.heap.size (.cells p.cells 32) (.slice (some ⟨w1.heap.size, 0, none⟩) 1 1) [K] := by
  have hb : Below w.heap.size w w1 := ((Below.refl _ w).alloc (Nat.le_refl _) _).trans (b.mono (by simp))
  have h1 : Own (w1.alloc (.cells #[.int .u8 K.toNat] 5)) w.heap.size (.slice (some ⟨w1.heap.size, 0, none⟩) 1 1) [K] := own_one hb.size
  have hx : w1.heap[w.heap.size]? = some (.cells p.cells 32 (0, 0)) := at_below b (Nat.le_refl _) new0
  refine ⟨h1, Bw.of_below (hb.alloc hb.size _) (Nat.le_refl _), ?_⟩
  exact (Below.heap_alloc w1 _ _ (Array.getElem?_eq_some_iff.1 hx).1).trans hx
set_option maxHeartbeats 1000000 in
set_option maxRecDepth 100000 in
theorem renc_no (p : PL) (w : World) (H14 : Hid (∀ W, Below w.heap.size w W → Calls Try.prog 14 #[.agg p.cells] W fun e w' => e = .returned (.bool false) ∧ Below W.heap.size W w')) :
    Calls Try.prog 11 #[.agg p.cells] w fun e w' => e = .returned (.tuple #[.slice none 0 0, .int .i64 4]) ∧ Below w.heap.size w w' := by
  have P1 : Hid ((w.alloc (.cells p.cells 32)).heap[w.heap.size]? = some (.cells p.cells 32 (0, 0))) := new0
  have HB : Hid (Below w.heap.size w (w.alloc (.cells p.cells 32))) := (Below.refl _ w).alloc (Nat.le_refl _) _
  have HF := H14.out (w.alloc (.cells p.cells 32)) HB.out
  have HF' : Hid (Calls Try.prog 14 #[.agg p.cells] (w.alloc (.cells p.cells 32)) fun e w' => e = .returned (.bool false) ∧ Hid (Below w.heap.size w w')) := HF.mono fun e w' ⟨h1, h2⟩ => ⟨h1, HB.out.trans (h2.mono HB.out.size)⟩
  clear HF H14 HB
  go_enter Try.func11, Try.ntmps11
  go_upto_region 1 with fail
  generalize w.alloc (.cells p.cells 32) = W at *
  go_wp2_with (first
    | refine wpList_load_row rfl 32 _ rfl w.heap.size rfl 32 p.cells (0, 0) _ P1.out Try.underlying32 rfl (size32p p) ?_
    | (go_at_call 14; refine HF'.out.mono ?_; rintro e w1 ⟨rfl, b1⟩))
  go_ret2
  exact ⟨rfl, b1.out⟩
set_option maxHeartbeats 2000000 in
set_option maxRecDepth 100000 in
theorem renc1 (p : PL) (hk : p.kind = 1) (w : World) (H14 : Hid (∀ W, Below w.heap.size w W → Calls Try.prog 14 #[.agg p.cells] W fun e w' => e = .returned (.bool true) ∧ Below W.heap.size W w')) (hs : p.tn.size ≤ 35184372088732) (hx : 0 ≤ p.tw ∧ p.tw < 9223372036854775808) (hv : (⟨p.q0, p.q1, p.q2, p.q3⟩ : V4).pos) :
    Calls Try.prog 11 #[.agg p.cells] w fun e w' => ∃ q' k' c', e = .returned (.tuple #[.slice q' k' c', .int .i64 0]) ∧ Own w' w.heap.size (.slice q' k' c') ([1] ++ txtB p.tn ++ numI p.tw ++ vecB ⟨p.q0, p.q1, p.q2, p.q3⟩) ∧ Bw w.heap.size w w' := by
  have hc : p.cells = #[.int .i64 1, .string p.tn, .int .i64 p.tw, .int .i64 p.q0, .int .i64 p.q1, .int .i64 p.q2, .int .i64 p.q3, .string p.nd, .int .i64 p.ep, .int .i64 p.v0, .int .i64 p.v1, .int .i64 p.v2, .int .i64 p.v3, .int .i64 p.jb.id, .string p.jb.tn, .int .i64 p.jb.pr, .int .i64 p.jb.rt, .slice p.jb.pa.a p.jb.pa.n p.jb.pa.c, .slice p.jb.tk.a p.jb.tk.n p.jb.tk.c, .int .i64 p.jb.st, .int .i64 p.jb.at', .slice p.jb.nd.a p.jb.nd.n p.jb.nd.c, .int .i64 p.jb.sr, .slice p.jb.dn.a p.jb.dn.n p.jb.dn.c, .int .i64 p.id, .slice p.ns.a p.ns.n p.ns.c, .int .i64 p.st] := by unfold PL.cells; rw [hk]; rfl
  have HC : Hid (∀ W : World, W.heap[w.heap.size]? = some (.cells p.cells 32 (0, 0)) → W.cell? ⟨w.heap.size, 0, none⟩ = some (.int .i64 1) ∧ W.cell? ⟨w.heap.size, 1, none⟩ = some (.string p.tn) ∧ W.cell? ⟨w.heap.size, 2, none⟩ = some (.int .i64 p.tw) ∧ W.cell? ⟨w.heap.size, 3, none⟩ = some (.int .i64 p.q0) ∧ W.cell? ⟨w.heap.size, 4, none⟩ = some (.int .i64 p.q1) ∧ W.cell? ⟨w.heap.size, 5, none⟩ = some (.int .i64 p.q2) ∧ W.cell? ⟨w.heap.size, 6, none⟩ = some (.int .i64 p.q3) ∧ W.cell? ⟨w.heap.size, 7, none⟩ = some (.string p.nd) ∧ W.cell? ⟨w.heap.size, 8, none⟩ = some (.int .i64 p.ep) ∧ W.cell? ⟨w.heap.size, 9, none⟩ = some (.int .i64 p.v0) ∧ W.cell? ⟨w.heap.size, 10, none⟩ = some (.int .i64 p.v1) ∧ W.cell? ⟨w.heap.size, 11, none⟩ = some (.int .i64 p.v2) ∧ W.cell? ⟨w.heap.size, 12, none⟩ = some (.int .i64 p.v3) ∧ W.cell? ⟨w.heap.size, 24, none⟩ = some (.int .i64 p.id) ∧ W.cell? ⟨w.heap.size, 26, none⟩ = some (.int .i64 p.st)) := fun W h => by
    rw [hc] at h
    exact c27b h
  have P1 : Hid ((w.alloc (.cells p.cells 32)).heap[w.heap.size]? = some (.cells p.cells 32 (0, 0))) := new0
  have HB : Hid (Below w.heap.size w (w.alloc (.cells p.cells 32))) := (Below.refl _ w).alloc (Nat.le_refl _) _
  have HF' : Hid (Calls Try.prog 14 #[.agg p.cells] (w.alloc (.cells p.cells 32)) fun e w' => e = .returned (.bool true) ∧ Hid (w'.heap[w.heap.size]? = some (.cells p.cells 32 (0, 0)) ∧ Wg w.heap.size w (w'.alloc (.cells #[.int .u8 1] 5)) w.heap.size (.cells p.cells 32) (.slice (some ⟨w'.heap.size, 0, none⟩) 1 1) [1])) := (H14.out _ HB.out).mono fun e w' ⟨h1, h2⟩ => ⟨h1, at_below h2 (Nat.le_refl _) P1.out, rwg_start p h2 1⟩
  clear H14 HB hk hc
  go_enter Try.func11, Try.ntmps11
  go_upto_region 1 with fail
  generalize w.alloc (.cells p.cells 32) = W at *
  go_upto_region 3 with (first
    | refine wpList_load_row rfl 32 _ rfl w.heap.size rfl 32 p.cells (0, 0) _ P1.out Try.underlying32 rfl (size32p p) ?_
    | (go_at_call 14; refine HF'.out.mono ?_; rintro e w1 ⟨rfl, h1⟩))
  obtain ⟨z0, -⟩ := HC.out _ h1.out.1
  clear P1 HF'
  go_upto_region 4 with fail
  have G0 : Hid (Wg w.heap.size w (w1.alloc (.cells #[.int .u8 1] 5)) w.heap.size (.cells p.cells 32) (.slice (some ⟨w1.heap.size, 0, none⟩) 1 1) [1]) := h1.out.2
  clear h1 z0
  generalize w1.alloc (.cells #[.int .u8 1] 5) = Y at *
  obtain ⟨e0, e1, e2, e3, e4, e5, e6, e7, e8, e9, e10, e11, e12, e24, e26⟩ := HC.out _ G0.out.x
  have H0 : Hid (Calls Try.prog 23 #[.slice (some ⟨w1.heap.size, 0, none⟩) 1 1, .string p.tn] Y fun e w' => ∃ q' k' c', e = .returned (.slice q' k' c') ∧ Hid (Wg w.heap.size w w' w.heap.size (.cells p.cells 32) (.slice q' k' c') ([1] ++ txtB p.tn))) := rwg_txt G0.out (Nat.le_refl _) (fun cs h => by cases h) p.tn (by omega) (by simp)
  go_upto_region 7 with (go_at_call 23; refine H0.out.mono ?_; rintro e y0 ⟨q0, k0, c0, rfl, K0⟩)
  clear H0 e0 e1 e2 e3 e4 e5 e6 e7 e8 e9 e10 e11 e12 e24 e26
  obtain ⟨e0, e1, e2, e3, e4, e5, e6, e7, e8, e9, e10, e11, e12, e24, e26⟩ := HC.out _ K0.out.x
  have H1 : Hid (Calls Try.prog 24 #[.slice q0 k0 c0, .int .i64 p.tw] y0 fun e w' => ∃ q' k' c', e = .returned (.slice q' k' c') ∧ Hid (Wg w.heap.size w w' w.heap.size (.cells p.cells 32) (.slice q' k' c') ([1] ++ txtB p.tn ++ numI p.tw))) := rwg_num K0.out (Nat.le_refl _) (fun cs h => by cases h) p.tw hx (by have h1 := num_length p.tn.size; have h2 := num_length p.nd.size; have h3 := num_length p.tw.toNat; have h4 := num_length p.ep.toNat; have h5 := num_length p.id.toNat; simp only [txtB, numI, List.length_append, List.length_cons, List.length_nil, ← Lib.size_eq]; omega)
  go_upto_region 8 with (go_at_call 24; refine H1.out.mono ?_; rintro e y1 ⟨q1, k1, c1, rfl, K1⟩)
  clear H1 e0 e1 e2 e3 e4 e5 e6 e7 e8 e9 e10 e11 e12 e24 e26
  obtain ⟨e0, e1, e2, e3, e4, e5, e6, e7, e8, e9, e10, e11, e12, e24, e26⟩ := HC.out _ K1.out.x
  have H2 : Hid (Calls Try.prog 25 #[.slice q1 k1 c1, .agg #[.int .i64 p.q0, .int .i64 p.q1, .int .i64 p.q2, .int .i64 p.q3]] y1 fun e w' => ∃ q' k' c', e = .returned (.slice q' k' c') ∧ Hid (Wg w.heap.size w w' w.heap.size (.cells p.cells 32) (.slice q' k' c') ([1] ++ txtB p.tn ++ numI p.tw ++ vecB ⟨p.q0, p.q1, p.q2, p.q3⟩))) := rwg_vec K1.out (Nat.le_refl _) (fun cs h => by cases h) ⟨p.q0, p.q1, p.q2, p.q3⟩ hv (by have h1 := num_length p.tn.size; have h2 := num_length p.nd.size; have h3 := num_length p.tw.toNat; have h4 := num_length p.ep.toNat; have h5 := num_length p.id.toNat; simp only [txtB, numI, List.length_append, List.length_cons, List.length_nil, ← Lib.size_eq]; omega)
  go_wp2_with (go_at_call 25; refine H2.out.mono ?_; rintro e y2 ⟨q2, k2, c2, rfl, K2⟩)
  go_ret2
  exact ⟨q2, k2, c2, rfl, K2.out.o, K2.out.b⟩
set_option maxHeartbeats 2000000 in
set_option maxRecDepth 100000 in
theorem renc2 (p : PL) (hk : p.kind = 2) (w : World) (H14 : Hid (∀ W, Below w.heap.size w W → Calls Try.prog 14 #[.agg p.cells] W fun e w' => e = .returned (.bool true) ∧ Below W.heap.size W w')) (hs : p.nd.size ≤ 35184372088732) (hx : 0 ≤ p.ep ∧ p.ep < 9223372036854775808) (hv : (⟨p.v0, p.v1, p.v2, p.v3⟩ : V4).pos) :
    Calls Try.prog 11 #[.agg p.cells] w fun e w' => ∃ q' k' c', e = .returned (.tuple #[.slice q' k' c', .int .i64 0]) ∧ Own w' w.heap.size (.slice q' k' c') ([2] ++ txtB p.nd ++ numI p.ep ++ vecB ⟨p.v0, p.v1, p.v2, p.v3⟩) ∧ Bw w.heap.size w w' := by
  have hc : p.cells = #[.int .i64 2, .string p.tn, .int .i64 p.tw, .int .i64 p.q0, .int .i64 p.q1, .int .i64 p.q2, .int .i64 p.q3, .string p.nd, .int .i64 p.ep, .int .i64 p.v0, .int .i64 p.v1, .int .i64 p.v2, .int .i64 p.v3, .int .i64 p.jb.id, .string p.jb.tn, .int .i64 p.jb.pr, .int .i64 p.jb.rt, .slice p.jb.pa.a p.jb.pa.n p.jb.pa.c, .slice p.jb.tk.a p.jb.tk.n p.jb.tk.c, .int .i64 p.jb.st, .int .i64 p.jb.at', .slice p.jb.nd.a p.jb.nd.n p.jb.nd.c, .int .i64 p.jb.sr, .slice p.jb.dn.a p.jb.dn.n p.jb.dn.c, .int .i64 p.id, .slice p.ns.a p.ns.n p.ns.c, .int .i64 p.st] := by unfold PL.cells; rw [hk]; rfl
  have HC : Hid (∀ W : World, W.heap[w.heap.size]? = some (.cells p.cells 32 (0, 0)) → W.cell? ⟨w.heap.size, 0, none⟩ = some (.int .i64 2) ∧ W.cell? ⟨w.heap.size, 1, none⟩ = some (.string p.tn) ∧ W.cell? ⟨w.heap.size, 2, none⟩ = some (.int .i64 p.tw) ∧ W.cell? ⟨w.heap.size, 3, none⟩ = some (.int .i64 p.q0) ∧ W.cell? ⟨w.heap.size, 4, none⟩ = some (.int .i64 p.q1) ∧ W.cell? ⟨w.heap.size, 5, none⟩ = some (.int .i64 p.q2) ∧ W.cell? ⟨w.heap.size, 6, none⟩ = some (.int .i64 p.q3) ∧ W.cell? ⟨w.heap.size, 7, none⟩ = some (.string p.nd) ∧ W.cell? ⟨w.heap.size, 8, none⟩ = some (.int .i64 p.ep) ∧ W.cell? ⟨w.heap.size, 9, none⟩ = some (.int .i64 p.v0) ∧ W.cell? ⟨w.heap.size, 10, none⟩ = some (.int .i64 p.v1) ∧ W.cell? ⟨w.heap.size, 11, none⟩ = some (.int .i64 p.v2) ∧ W.cell? ⟨w.heap.size, 12, none⟩ = some (.int .i64 p.v3) ∧ W.cell? ⟨w.heap.size, 24, none⟩ = some (.int .i64 p.id) ∧ W.cell? ⟨w.heap.size, 26, none⟩ = some (.int .i64 p.st)) := fun W h => by
    rw [hc] at h
    exact c27b h
  have P1 : Hid ((w.alloc (.cells p.cells 32)).heap[w.heap.size]? = some (.cells p.cells 32 (0, 0))) := new0
  have HB : Hid (Below w.heap.size w (w.alloc (.cells p.cells 32))) := (Below.refl _ w).alloc (Nat.le_refl _) _
  have HF' : Hid (Calls Try.prog 14 #[.agg p.cells] (w.alloc (.cells p.cells 32)) fun e w' => e = .returned (.bool true) ∧ Hid (w'.heap[w.heap.size]? = some (.cells p.cells 32 (0, 0)) ∧ Wg w.heap.size w (w'.alloc (.cells #[.int .u8 2] 5)) w.heap.size (.cells p.cells 32) (.slice (some ⟨w'.heap.size, 0, none⟩) 1 1) [2])) := (H14.out _ HB.out).mono fun e w' ⟨h1, h2⟩ => ⟨h1, at_below h2 (Nat.le_refl _) P1.out, rwg_start p h2 2⟩
  clear H14 HB hk hc
  go_enter Try.func11, Try.ntmps11
  go_upto_region 1 with fail
  generalize w.alloc (.cells p.cells 32) = W at *
  go_upto_region 3 with (first
    | refine wpList_load_row rfl 32 _ rfl w.heap.size rfl 32 p.cells (0, 0) _ P1.out Try.underlying32 rfl (size32p p) ?_
    | (go_at_call 14; refine HF'.out.mono ?_; rintro e w1 ⟨rfl, h1⟩))
  obtain ⟨z0, -⟩ := HC.out _ h1.out.1
  clear P1 HF'
  go_upto_region 4 with fail
  have G0 : Hid (Wg w.heap.size w (w1.alloc (.cells #[.int .u8 2] 5)) w.heap.size (.cells p.cells 32) (.slice (some ⟨w1.heap.size, 0, none⟩) 1 1) [2]) := h1.out.2
  clear h1 z0
  generalize w1.alloc (.cells #[.int .u8 2] 5) = Y at *
  obtain ⟨e0, e1, e2, e3, e4, e5, e6, e7, e8, e9, e10, e11, e12, e24, e26⟩ := HC.out _ G0.out.x
  have H0 : Hid (Calls Try.prog 23 #[.slice (some ⟨w1.heap.size, 0, none⟩) 1 1, .string p.nd] Y fun e w' => ∃ q' k' c', e = .returned (.slice q' k' c') ∧ Hid (Wg w.heap.size w w' w.heap.size (.cells p.cells 32) (.slice q' k' c') ([2] ++ txtB p.nd))) := rwg_txt G0.out (Nat.le_refl _) (fun cs h => by cases h) p.nd (by omega) (by simp)
  go_upto_region 11 with (go_at_call 23; refine H0.out.mono ?_; rintro e y0 ⟨q0, k0, c0, rfl, K0⟩)
  clear H0 e0 e1 e2 e3 e4 e5 e6 e7 e8 e9 e10 e11 e12 e24 e26
  obtain ⟨e0, e1, e2, e3, e4, e5, e6, e7, e8, e9, e10, e11, e12, e24, e26⟩ := HC.out _ K0.out.x
  have H1 : Hid (Calls Try.prog 24 #[.slice q0 k0 c0, .int .i64 p.ep] y0 fun e w' => ∃ q' k' c', e = .returned (.slice q' k' c') ∧ Hid (Wg w.heap.size w w' w.heap.size (.cells p.cells 32) (.slice q' k' c') ([2] ++ txtB p.nd ++ numI p.ep))) := rwg_num K0.out (Nat.le_refl _) (fun cs h => by cases h) p.ep hx (by have h1 := num_length p.tn.size; have h2 := num_length p.nd.size; have h3 := num_length p.tw.toNat; have h4 := num_length p.ep.toNat; have h5 := num_length p.id.toNat; simp only [txtB, numI, List.length_append, List.length_cons, List.length_nil, ← Lib.size_eq]; omega)
  go_upto_region 12 with (go_at_call 24; refine H1.out.mono ?_; rintro e y1 ⟨q1, k1, c1, rfl, K1⟩)
  clear H1 e0 e1 e2 e3 e4 e5 e6 e7 e8 e9 e10 e11 e12 e24 e26
  obtain ⟨e0, e1, e2, e3, e4, e5, e6, e7, e8, e9, e10, e11, e12, e24, e26⟩ := HC.out _ K1.out.x
  have H2 : Hid (Calls Try.prog 25 #[.slice q1 k1 c1, .agg #[.int .i64 p.v0, .int .i64 p.v1, .int .i64 p.v2, .int .i64 p.v3]] y1 fun e w' => ∃ q' k' c', e = .returned (.slice q' k' c') ∧ Hid (Wg w.heap.size w w' w.heap.size (.cells p.cells 32) (.slice q' k' c') ([2] ++ txtB p.nd ++ numI p.ep ++ vecB ⟨p.v0, p.v1, p.v2, p.v3⟩))) := rwg_vec K1.out (Nat.le_refl _) (fun cs h => by cases h) ⟨p.v0, p.v1, p.v2, p.v3⟩ hv (by have h1 := num_length p.tn.size; have h2 := num_length p.nd.size; have h3 := num_length p.tw.toNat; have h4 := num_length p.ep.toNat; have h5 := num_length p.id.toNat; simp only [txtB, numI, List.length_append, List.length_cons, List.length_nil, ← Lib.size_eq]; omega)
  go_wp2_with (go_at_call 25; refine H2.out.mono ?_; rintro e y2 ⟨q2, k2, c2, rfl, K2⟩)
  go_ret2
  exact ⟨q2, k2, c2, rfl, K2.out.o, K2.out.b⟩
set_option maxHeartbeats 2000000 in
set_option maxRecDepth 100000 in
theorem renc3 (p : PL) (hk : p.kind = 3) (w : World) (H14 : Hid (∀ W, Below w.heap.size w W → Calls Try.prog 14 #[.agg p.cells] W fun e w' => e = .returned (.bool true) ∧ Below W.heap.size W w')) (hs : p.nd.size ≤ 35184372088732) :
    Calls Try.prog 11 #[.agg p.cells] w fun e w' => ∃ q' k' c', e = .returned (.tuple #[.slice q' k' c', .int .i64 0]) ∧ Own w' w.heap.size (.slice q' k' c') ([3] ++ txtB p.nd) ∧ Bw w.heap.size w w' := by
  have hc : p.cells = #[.int .i64 3, .string p.tn, .int .i64 p.tw, .int .i64 p.q0, .int .i64 p.q1, .int .i64 p.q2, .int .i64 p.q3, .string p.nd, .int .i64 p.ep, .int .i64 p.v0, .int .i64 p.v1, .int .i64 p.v2, .int .i64 p.v3, .int .i64 p.jb.id, .string p.jb.tn, .int .i64 p.jb.pr, .int .i64 p.jb.rt, .slice p.jb.pa.a p.jb.pa.n p.jb.pa.c, .slice p.jb.tk.a p.jb.tk.n p.jb.tk.c, .int .i64 p.jb.st, .int .i64 p.jb.at', .slice p.jb.nd.a p.jb.nd.n p.jb.nd.c, .int .i64 p.jb.sr, .slice p.jb.dn.a p.jb.dn.n p.jb.dn.c, .int .i64 p.id, .slice p.ns.a p.ns.n p.ns.c, .int .i64 p.st] := by unfold PL.cells; rw [hk]; rfl
  have HC : Hid (∀ W : World, W.heap[w.heap.size]? = some (.cells p.cells 32 (0, 0)) → W.cell? ⟨w.heap.size, 0, none⟩ = some (.int .i64 3) ∧ W.cell? ⟨w.heap.size, 1, none⟩ = some (.string p.tn) ∧ W.cell? ⟨w.heap.size, 2, none⟩ = some (.int .i64 p.tw) ∧ W.cell? ⟨w.heap.size, 3, none⟩ = some (.int .i64 p.q0) ∧ W.cell? ⟨w.heap.size, 4, none⟩ = some (.int .i64 p.q1) ∧ W.cell? ⟨w.heap.size, 5, none⟩ = some (.int .i64 p.q2) ∧ W.cell? ⟨w.heap.size, 6, none⟩ = some (.int .i64 p.q3) ∧ W.cell? ⟨w.heap.size, 7, none⟩ = some (.string p.nd) ∧ W.cell? ⟨w.heap.size, 8, none⟩ = some (.int .i64 p.ep) ∧ W.cell? ⟨w.heap.size, 9, none⟩ = some (.int .i64 p.v0) ∧ W.cell? ⟨w.heap.size, 10, none⟩ = some (.int .i64 p.v1) ∧ W.cell? ⟨w.heap.size, 11, none⟩ = some (.int .i64 p.v2) ∧ W.cell? ⟨w.heap.size, 12, none⟩ = some (.int .i64 p.v3) ∧ W.cell? ⟨w.heap.size, 24, none⟩ = some (.int .i64 p.id) ∧ W.cell? ⟨w.heap.size, 26, none⟩ = some (.int .i64 p.st)) := fun W h => by
    rw [hc] at h
    exact c27b h
  have P1 : Hid ((w.alloc (.cells p.cells 32)).heap[w.heap.size]? = some (.cells p.cells 32 (0, 0))) := new0
  have HB : Hid (Below w.heap.size w (w.alloc (.cells p.cells 32))) := (Below.refl _ w).alloc (Nat.le_refl _) _
  have HF' : Hid (Calls Try.prog 14 #[.agg p.cells] (w.alloc (.cells p.cells 32)) fun e w' => e = .returned (.bool true) ∧ Hid (w'.heap[w.heap.size]? = some (.cells p.cells 32 (0, 0)) ∧ Wg w.heap.size w (w'.alloc (.cells #[.int .u8 3] 5)) w.heap.size (.cells p.cells 32) (.slice (some ⟨w'.heap.size, 0, none⟩) 1 1) [3])) := (H14.out _ HB.out).mono fun e w' ⟨h1, h2⟩ => ⟨h1, at_below h2 (Nat.le_refl _) P1.out, rwg_start p h2 3⟩
  clear H14 HB hk hc
  go_enter Try.func11, Try.ntmps11
  go_upto_region 1 with fail
  generalize w.alloc (.cells p.cells 32) = W at *
  go_upto_region 3 with (first
    | refine wpList_load_row rfl 32 _ rfl w.heap.size rfl 32 p.cells (0, 0) _ P1.out Try.underlying32 rfl (size32p p) ?_
    | (go_at_call 14; refine HF'.out.mono ?_; rintro e w1 ⟨rfl, h1⟩))
  obtain ⟨z0, -⟩ := HC.out _ h1.out.1
  clear P1 HF'
  go_upto_region 4 with fail
  have G0 : Hid (Wg w.heap.size w (w1.alloc (.cells #[.int .u8 3] 5)) w.heap.size (.cells p.cells 32) (.slice (some ⟨w1.heap.size, 0, none⟩) 1 1) [3]) := h1.out.2
  clear h1 z0
  generalize w1.alloc (.cells #[.int .u8 3] 5) = Y at *
  obtain ⟨e0, e1, e2, e3, e4, e5, e6, e7, e8, e9, e10, e11, e12, e24, e26⟩ := HC.out _ G0.out.x
  have H0 : Hid (Calls Try.prog 23 #[.slice (some ⟨w1.heap.size, 0, none⟩) 1 1, .string p.nd] Y fun e w' => ∃ q' k' c', e = .returned (.slice q' k' c') ∧ Hid (Wg w.heap.size w w' w.heap.size (.cells p.cells 32) (.slice q' k' c') ([3] ++ txtB p.nd))) := rwg_txt G0.out (Nat.le_refl _) (fun cs h => by cases h) p.nd (by omega) (by simp)
  go_wp2_with (go_at_call 23; refine H0.out.mono ?_; rintro e y0 ⟨q0, k0, c0, rfl, K0⟩)
  go_ret2
  exact ⟨q0, k0, c0, rfl, K0.out.o, K0.out.b⟩
set_option maxHeartbeats 2000000 in
set_option maxRecDepth 100000 in
theorem renc4 (p : PL) (hk : p.kind = 4) (w : World) (H14 : Hid (∀ W, Below w.heap.size w W → Calls Try.prog 14 #[.agg p.cells] W fun e w' => e = .returned (.bool true) ∧ Below W.heap.size W w')) (hs : p.nd.size ≤ 35184372088732) :
    Calls Try.prog 11 #[.agg p.cells] w fun e w' => ∃ q' k' c', e = .returned (.tuple #[.slice q' k' c', .int .i64 0]) ∧ Own w' w.heap.size (.slice q' k' c') ([4] ++ txtB p.nd) ∧ Bw w.heap.size w w' := by
  have hc : p.cells = #[.int .i64 4, .string p.tn, .int .i64 p.tw, .int .i64 p.q0, .int .i64 p.q1, .int .i64 p.q2, .int .i64 p.q3, .string p.nd, .int .i64 p.ep, .int .i64 p.v0, .int .i64 p.v1, .int .i64 p.v2, .int .i64 p.v3, .int .i64 p.jb.id, .string p.jb.tn, .int .i64 p.jb.pr, .int .i64 p.jb.rt, .slice p.jb.pa.a p.jb.pa.n p.jb.pa.c, .slice p.jb.tk.a p.jb.tk.n p.jb.tk.c, .int .i64 p.jb.st, .int .i64 p.jb.at', .slice p.jb.nd.a p.jb.nd.n p.jb.nd.c, .int .i64 p.jb.sr, .slice p.jb.dn.a p.jb.dn.n p.jb.dn.c, .int .i64 p.id, .slice p.ns.a p.ns.n p.ns.c, .int .i64 p.st] := by unfold PL.cells; rw [hk]; rfl
  have HC : Hid (∀ W : World, W.heap[w.heap.size]? = some (.cells p.cells 32 (0, 0)) → W.cell? ⟨w.heap.size, 0, none⟩ = some (.int .i64 4) ∧ W.cell? ⟨w.heap.size, 1, none⟩ = some (.string p.tn) ∧ W.cell? ⟨w.heap.size, 2, none⟩ = some (.int .i64 p.tw) ∧ W.cell? ⟨w.heap.size, 3, none⟩ = some (.int .i64 p.q0) ∧ W.cell? ⟨w.heap.size, 4, none⟩ = some (.int .i64 p.q1) ∧ W.cell? ⟨w.heap.size, 5, none⟩ = some (.int .i64 p.q2) ∧ W.cell? ⟨w.heap.size, 6, none⟩ = some (.int .i64 p.q3) ∧ W.cell? ⟨w.heap.size, 7, none⟩ = some (.string p.nd) ∧ W.cell? ⟨w.heap.size, 8, none⟩ = some (.int .i64 p.ep) ∧ W.cell? ⟨w.heap.size, 9, none⟩ = some (.int .i64 p.v0) ∧ W.cell? ⟨w.heap.size, 10, none⟩ = some (.int .i64 p.v1) ∧ W.cell? ⟨w.heap.size, 11, none⟩ = some (.int .i64 p.v2) ∧ W.cell? ⟨w.heap.size, 12, none⟩ = some (.int .i64 p.v3) ∧ W.cell? ⟨w.heap.size, 24, none⟩ = some (.int .i64 p.id) ∧ W.cell? ⟨w.heap.size, 26, none⟩ = some (.int .i64 p.st)) := fun W h => by
    rw [hc] at h
    exact c27b h
  have P1 : Hid ((w.alloc (.cells p.cells 32)).heap[w.heap.size]? = some (.cells p.cells 32 (0, 0))) := new0
  have HB : Hid (Below w.heap.size w (w.alloc (.cells p.cells 32))) := (Below.refl _ w).alloc (Nat.le_refl _) _
  have HF' : Hid (Calls Try.prog 14 #[.agg p.cells] (w.alloc (.cells p.cells 32)) fun e w' => e = .returned (.bool true) ∧ Hid (w'.heap[w.heap.size]? = some (.cells p.cells 32 (0, 0)) ∧ Wg w.heap.size w (w'.alloc (.cells #[.int .u8 4] 5)) w.heap.size (.cells p.cells 32) (.slice (some ⟨w'.heap.size, 0, none⟩) 1 1) [4])) := (H14.out _ HB.out).mono fun e w' ⟨h1, h2⟩ => ⟨h1, at_below h2 (Nat.le_refl _) P1.out, rwg_start p h2 4⟩
  clear H14 HB hk hc
  go_enter Try.func11, Try.ntmps11
  go_upto_region 1 with fail
  generalize w.alloc (.cells p.cells 32) = W at *
  go_upto_region 3 with (first
    | refine wpList_load_row rfl 32 _ rfl w.heap.size rfl 32 p.cells (0, 0) _ P1.out Try.underlying32 rfl (size32p p) ?_
    | (go_at_call 14; refine HF'.out.mono ?_; rintro e w1 ⟨rfl, h1⟩))
  obtain ⟨z0, -⟩ := HC.out _ h1.out.1
  clear P1 HF'
  go_upto_region 4 with fail
  have G0 : Hid (Wg w.heap.size w (w1.alloc (.cells #[.int .u8 4] 5)) w.heap.size (.cells p.cells 32) (.slice (some ⟨w1.heap.size, 0, none⟩) 1 1) [4]) := h1.out.2
  clear h1 z0
  generalize w1.alloc (.cells #[.int .u8 4] 5) = Y at *
  obtain ⟨e0, e1, e2, e3, e4, e5, e6, e7, e8, e9, e10, e11, e12, e24, e26⟩ := HC.out _ G0.out.x
  have H0 : Hid (Calls Try.prog 23 #[.slice (some ⟨w1.heap.size, 0, none⟩) 1 1, .string p.nd] Y fun e w' => ∃ q' k' c', e = .returned (.slice q' k' c') ∧ Hid (Wg w.heap.size w w' w.heap.size (.cells p.cells 32) (.slice q' k' c') ([4] ++ txtB p.nd))) := rwg_txt G0.out (Nat.le_refl _) (fun cs h => by cases h) p.nd (by omega) (by simp)
  go_wp2_with (go_at_call 23; refine H0.out.mono ?_; rintro e y0 ⟨q0, k0, c0, rfl, K0⟩)
  go_ret2
  exact ⟨q0, k0, c0, rfl, K0.out.o, K0.out.b⟩
set_option maxHeartbeats 2000000 in
set_option maxRecDepth 100000 in
theorem renc6 (p : PL) (hk : p.kind = 6) (w : World) (H14 : Hid (∀ W, Below w.heap.size w W → Calls Try.prog 14 #[.agg p.cells] W fun e w' => e = .returned (.bool true) ∧ Below W.heap.size W w')) (hx : 0 ≤ p.id ∧ p.id < 9223372036854775808) :
    Calls Try.prog 11 #[.agg p.cells] w fun e w' => ∃ q' k' c', e = .returned (.tuple #[.slice q' k' c', .int .i64 0]) ∧ Own w' w.heap.size (.slice q' k' c') ([6] ++ numI p.id) ∧ Bw w.heap.size w w' := by
  have hc : p.cells = #[.int .i64 6, .string p.tn, .int .i64 p.tw, .int .i64 p.q0, .int .i64 p.q1, .int .i64 p.q2, .int .i64 p.q3, .string p.nd, .int .i64 p.ep, .int .i64 p.v0, .int .i64 p.v1, .int .i64 p.v2, .int .i64 p.v3, .int .i64 p.jb.id, .string p.jb.tn, .int .i64 p.jb.pr, .int .i64 p.jb.rt, .slice p.jb.pa.a p.jb.pa.n p.jb.pa.c, .slice p.jb.tk.a p.jb.tk.n p.jb.tk.c, .int .i64 p.jb.st, .int .i64 p.jb.at', .slice p.jb.nd.a p.jb.nd.n p.jb.nd.c, .int .i64 p.jb.sr, .slice p.jb.dn.a p.jb.dn.n p.jb.dn.c, .int .i64 p.id, .slice p.ns.a p.ns.n p.ns.c, .int .i64 p.st] := by unfold PL.cells; rw [hk]; rfl
  have HC : Hid (∀ W : World, W.heap[w.heap.size]? = some (.cells p.cells 32 (0, 0)) → W.cell? ⟨w.heap.size, 0, none⟩ = some (.int .i64 6) ∧ W.cell? ⟨w.heap.size, 1, none⟩ = some (.string p.tn) ∧ W.cell? ⟨w.heap.size, 2, none⟩ = some (.int .i64 p.tw) ∧ W.cell? ⟨w.heap.size, 3, none⟩ = some (.int .i64 p.q0) ∧ W.cell? ⟨w.heap.size, 4, none⟩ = some (.int .i64 p.q1) ∧ W.cell? ⟨w.heap.size, 5, none⟩ = some (.int .i64 p.q2) ∧ W.cell? ⟨w.heap.size, 6, none⟩ = some (.int .i64 p.q3) ∧ W.cell? ⟨w.heap.size, 7, none⟩ = some (.string p.nd) ∧ W.cell? ⟨w.heap.size, 8, none⟩ = some (.int .i64 p.ep) ∧ W.cell? ⟨w.heap.size, 9, none⟩ = some (.int .i64 p.v0) ∧ W.cell? ⟨w.heap.size, 10, none⟩ = some (.int .i64 p.v1) ∧ W.cell? ⟨w.heap.size, 11, none⟩ = some (.int .i64 p.v2) ∧ W.cell? ⟨w.heap.size, 12, none⟩ = some (.int .i64 p.v3) ∧ W.cell? ⟨w.heap.size, 24, none⟩ = some (.int .i64 p.id) ∧ W.cell? ⟨w.heap.size, 26, none⟩ = some (.int .i64 p.st)) := fun W h => by
    rw [hc] at h
    exact c27b h
  have P1 : Hid ((w.alloc (.cells p.cells 32)).heap[w.heap.size]? = some (.cells p.cells 32 (0, 0))) := new0
  have HB : Hid (Below w.heap.size w (w.alloc (.cells p.cells 32))) := (Below.refl _ w).alloc (Nat.le_refl _) _
  have HF' : Hid (Calls Try.prog 14 #[.agg p.cells] (w.alloc (.cells p.cells 32)) fun e w' => e = .returned (.bool true) ∧ Hid (w'.heap[w.heap.size]? = some (.cells p.cells 32 (0, 0)) ∧ Wg w.heap.size w (w'.alloc (.cells #[.int .u8 6] 5)) w.heap.size (.cells p.cells 32) (.slice (some ⟨w'.heap.size, 0, none⟩) 1 1) [6])) := (H14.out _ HB.out).mono fun e w' ⟨h1, h2⟩ => ⟨h1, at_below h2 (Nat.le_refl _) P1.out, rwg_start p h2 6⟩
  clear H14 HB hk hc
  go_enter Try.func11, Try.ntmps11
  go_upto_region 1 with fail
  generalize w.alloc (.cells p.cells 32) = W at *
  go_upto_region 3 with (first
    | refine wpList_load_row rfl 32 _ rfl w.heap.size rfl 32 p.cells (0, 0) _ P1.out Try.underlying32 rfl (size32p p) ?_
    | (go_at_call 14; refine HF'.out.mono ?_; rintro e w1 ⟨rfl, h1⟩))
  obtain ⟨z0, -⟩ := HC.out _ h1.out.1
  clear P1 HF'
  go_upto_region 4 with fail
  have G0 : Hid (Wg w.heap.size w (w1.alloc (.cells #[.int .u8 6] 5)) w.heap.size (.cells p.cells 32) (.slice (some ⟨w1.heap.size, 0, none⟩) 1 1) [6]) := h1.out.2
  clear h1 z0
  generalize w1.alloc (.cells #[.int .u8 6] 5) = Y at *
  obtain ⟨e0, e1, e2, e3, e4, e5, e6, e7, e8, e9, e10, e11, e12, e24, e26⟩ := HC.out _ G0.out.x
  have H0 : Hid (Calls Try.prog 24 #[.slice (some ⟨w1.heap.size, 0, none⟩) 1 1, .int .i64 p.id] Y fun e w' => ∃ q' k' c', e = .returned (.slice q' k' c') ∧ Hid (Wg w.heap.size w w' w.heap.size (.cells p.cells 32) (.slice q' k' c') ([6] ++ numI p.id))) := rwg_num G0.out (Nat.le_refl _) (fun cs h => by cases h) p.id hx (by simp)
  go_wp2_with (go_at_call 24; refine H0.out.mono ?_; rintro e y0 ⟨q0, k0, c0, rfl, K0⟩)
  go_ret2
  exact ⟨q0, k0, c0, rfl, K0.out.o, K0.out.b⟩
set_option maxHeartbeats 2000000 in
set_option maxRecDepth 100000 in
theorem renc8 (p : PL) (hk : p.kind = 8) (w : World) (H14 : Hid (∀ W, Below w.heap.size w W → Calls Try.prog 14 #[.agg p.cells] W fun e w' => e = .returned (.bool true) ∧ Below W.heap.size W w')) (hx : 0 ≤ p.id ∧ p.id < 9223372036854775808) :
    Calls Try.prog 11 #[.agg p.cells] w fun e w' => ∃ q' k' c', e = .returned (.tuple #[.slice q' k' c', .int .i64 0]) ∧ Own w' w.heap.size (.slice q' k' c') ([8] ++ numI p.id) ∧ Bw w.heap.size w w' := by
  have hc : p.cells = #[.int .i64 8, .string p.tn, .int .i64 p.tw, .int .i64 p.q0, .int .i64 p.q1, .int .i64 p.q2, .int .i64 p.q3, .string p.nd, .int .i64 p.ep, .int .i64 p.v0, .int .i64 p.v1, .int .i64 p.v2, .int .i64 p.v3, .int .i64 p.jb.id, .string p.jb.tn, .int .i64 p.jb.pr, .int .i64 p.jb.rt, .slice p.jb.pa.a p.jb.pa.n p.jb.pa.c, .slice p.jb.tk.a p.jb.tk.n p.jb.tk.c, .int .i64 p.jb.st, .int .i64 p.jb.at', .slice p.jb.nd.a p.jb.nd.n p.jb.nd.c, .int .i64 p.jb.sr, .slice p.jb.dn.a p.jb.dn.n p.jb.dn.c, .int .i64 p.id, .slice p.ns.a p.ns.n p.ns.c, .int .i64 p.st] := by unfold PL.cells; rw [hk]; rfl
  have HC : Hid (∀ W : World, W.heap[w.heap.size]? = some (.cells p.cells 32 (0, 0)) → W.cell? ⟨w.heap.size, 0, none⟩ = some (.int .i64 8) ∧ W.cell? ⟨w.heap.size, 1, none⟩ = some (.string p.tn) ∧ W.cell? ⟨w.heap.size, 2, none⟩ = some (.int .i64 p.tw) ∧ W.cell? ⟨w.heap.size, 3, none⟩ = some (.int .i64 p.q0) ∧ W.cell? ⟨w.heap.size, 4, none⟩ = some (.int .i64 p.q1) ∧ W.cell? ⟨w.heap.size, 5, none⟩ = some (.int .i64 p.q2) ∧ W.cell? ⟨w.heap.size, 6, none⟩ = some (.int .i64 p.q3) ∧ W.cell? ⟨w.heap.size, 7, none⟩ = some (.string p.nd) ∧ W.cell? ⟨w.heap.size, 8, none⟩ = some (.int .i64 p.ep) ∧ W.cell? ⟨w.heap.size, 9, none⟩ = some (.int .i64 p.v0) ∧ W.cell? ⟨w.heap.size, 10, none⟩ = some (.int .i64 p.v1) ∧ W.cell? ⟨w.heap.size, 11, none⟩ = some (.int .i64 p.v2) ∧ W.cell? ⟨w.heap.size, 12, none⟩ = some (.int .i64 p.v3) ∧ W.cell? ⟨w.heap.size, 24, none⟩ = some (.int .i64 p.id) ∧ W.cell? ⟨w.heap.size, 26, none⟩ = some (.int .i64 p.st)) := fun W h => by
    rw [hc] at h
    exact c27b h
  have P1 : Hid ((w.alloc (.cells p.cells 32)).heap[w.heap.size]? = some (.cells p.cells 32 (0, 0))) := new0
  have HB : Hid (Below w.heap.size w (w.alloc (.cells p.cells 32))) := (Below.refl _ w).alloc (Nat.le_refl _) _
  have HF' : Hid (Calls Try.prog 14 #[.agg p.cells] (w.alloc (.cells p.cells 32)) fun e w' => e = .returned (.bool true) ∧ Hid (w'.heap[w.heap.size]? = some (.cells p.cells 32 (0, 0)) ∧ Wg w.heap.size w (w'.alloc (.cells #[.int .u8 8] 5)) w.heap.size (.cells p.cells 32) (.slice (some ⟨w'.heap.size, 0, none⟩) 1 1) [8])) := (H14.out _ HB.out).mono fun e w' ⟨h1, h2⟩ => ⟨h1, at_below h2 (Nat.le_refl _) P1.out, rwg_start p h2 8⟩
  clear H14 HB hk hc
  go_enter Try.func11, Try.ntmps11
  go_upto_region 1 with fail
  generalize w.alloc (.cells p.cells 32) = W at *
  go_upto_region 3 with (first
    | refine wpList_load_row rfl 32 _ rfl w.heap.size rfl 32 p.cells (0, 0) _ P1.out Try.underlying32 rfl (size32p p) ?_
    | (go_at_call 14; refine HF'.out.mono ?_; rintro e w1 ⟨rfl, h1⟩))
  obtain ⟨z0, -⟩ := HC.out _ h1.out.1
  clear P1 HF'
  go_upto_region 4 with fail
  have G0 : Hid (Wg w.heap.size w (w1.alloc (.cells #[.int .u8 8] 5)) w.heap.size (.cells p.cells 32) (.slice (some ⟨w1.heap.size, 0, none⟩) 1 1) [8]) := h1.out.2
  clear h1 z0
  generalize w1.alloc (.cells #[.int .u8 8] 5) = Y at *
  obtain ⟨e0, e1, e2, e3, e4, e5, e6, e7, e8, e9, e10, e11, e12, e24, e26⟩ := HC.out _ G0.out.x
  have H0 : Hid (Calls Try.prog 24 #[.slice (some ⟨w1.heap.size, 0, none⟩) 1 1, .int .i64 p.id] Y fun e w' => ∃ q' k' c', e = .returned (.slice q' k' c') ∧ Hid (Wg w.heap.size w w' w.heap.size (.cells p.cells 32) (.slice q' k' c') ([8] ++ numI p.id))) := rwg_num G0.out (Nat.le_refl _) (fun cs h => by cases h) p.id hx (by simp)
  go_wp2_with (go_at_call 24; refine H0.out.mono ?_; rintro e y0 ⟨q0, k0, c0, rfl, K0⟩)
  go_ret2
  exact ⟨q0, k0, c0, rfl, K0.out.o, K0.out.b⟩
set_option maxHeartbeats 2000000 in
set_option maxRecDepth 100000 in
theorem renc9 (p : PL) (hk : p.kind = 9) (w : World) (H14 : Hid (∀ W, Below w.heap.size w W → Calls Try.prog 14 #[.agg p.cells] W fun e w' => e = .returned (.bool true) ∧ Below W.heap.size W w')) (hx : 0 ≤ p.id ∧ p.id < 9223372036854775808) (hs : p.nd.size ≤ 35184372088732) :
    Calls Try.prog 11 #[.agg p.cells] w fun e w' => ∃ q' k' c', e = .returned (.tuple #[.slice q' k' c', .int .i64 0]) ∧ Own w' w.heap.size (.slice q' k' c') ([9] ++ numI p.id ++ txtB p.nd) ∧ Bw w.heap.size w w' := by
  have hc : p.cells = #[.int .i64 9, .string p.tn, .int .i64 p.tw, .int .i64 p.q0, .int .i64 p.q1, .int .i64 p.q2, .int .i64 p.q3, .string p.nd, .int .i64 p.ep, .int .i64 p.v0, .int .i64 p.v1, .int .i64 p.v2, .int .i64 p.v3, .int .i64 p.jb.id, .string p.jb.tn, .int .i64 p.jb.pr, .int .i64 p.jb.rt, .slice p.jb.pa.a p.jb.pa.n p.jb.pa.c, .slice p.jb.tk.a p.jb.tk.n p.jb.tk.c, .int .i64 p.jb.st, .int .i64 p.jb.at', .slice p.jb.nd.a p.jb.nd.n p.jb.nd.c, .int .i64 p.jb.sr, .slice p.jb.dn.a p.jb.dn.n p.jb.dn.c, .int .i64 p.id, .slice p.ns.a p.ns.n p.ns.c, .int .i64 p.st] := by unfold PL.cells; rw [hk]; rfl
  have HC : Hid (∀ W : World, W.heap[w.heap.size]? = some (.cells p.cells 32 (0, 0)) → W.cell? ⟨w.heap.size, 0, none⟩ = some (.int .i64 9) ∧ W.cell? ⟨w.heap.size, 1, none⟩ = some (.string p.tn) ∧ W.cell? ⟨w.heap.size, 2, none⟩ = some (.int .i64 p.tw) ∧ W.cell? ⟨w.heap.size, 3, none⟩ = some (.int .i64 p.q0) ∧ W.cell? ⟨w.heap.size, 4, none⟩ = some (.int .i64 p.q1) ∧ W.cell? ⟨w.heap.size, 5, none⟩ = some (.int .i64 p.q2) ∧ W.cell? ⟨w.heap.size, 6, none⟩ = some (.int .i64 p.q3) ∧ W.cell? ⟨w.heap.size, 7, none⟩ = some (.string p.nd) ∧ W.cell? ⟨w.heap.size, 8, none⟩ = some (.int .i64 p.ep) ∧ W.cell? ⟨w.heap.size, 9, none⟩ = some (.int .i64 p.v0) ∧ W.cell? ⟨w.heap.size, 10, none⟩ = some (.int .i64 p.v1) ∧ W.cell? ⟨w.heap.size, 11, none⟩ = some (.int .i64 p.v2) ∧ W.cell? ⟨w.heap.size, 12, none⟩ = some (.int .i64 p.v3) ∧ W.cell? ⟨w.heap.size, 24, none⟩ = some (.int .i64 p.id) ∧ W.cell? ⟨w.heap.size, 26, none⟩ = some (.int .i64 p.st)) := fun W h => by
    rw [hc] at h
    exact c27b h
  have P1 : Hid ((w.alloc (.cells p.cells 32)).heap[w.heap.size]? = some (.cells p.cells 32 (0, 0))) := new0
  have HB : Hid (Below w.heap.size w (w.alloc (.cells p.cells 32))) := (Below.refl _ w).alloc (Nat.le_refl _) _
  have HF' : Hid (Calls Try.prog 14 #[.agg p.cells] (w.alloc (.cells p.cells 32)) fun e w' => e = .returned (.bool true) ∧ Hid (w'.heap[w.heap.size]? = some (.cells p.cells 32 (0, 0)) ∧ Wg w.heap.size w (w'.alloc (.cells #[.int .u8 9] 5)) w.heap.size (.cells p.cells 32) (.slice (some ⟨w'.heap.size, 0, none⟩) 1 1) [9])) := (H14.out _ HB.out).mono fun e w' ⟨h1, h2⟩ => ⟨h1, at_below h2 (Nat.le_refl _) P1.out, rwg_start p h2 9⟩
  clear H14 HB hk hc
  go_enter Try.func11, Try.ntmps11
  go_upto_region 1 with fail
  generalize w.alloc (.cells p.cells 32) = W at *
  go_upto_region 3 with (first
    | refine wpList_load_row rfl 32 _ rfl w.heap.size rfl 32 p.cells (0, 0) _ P1.out Try.underlying32 rfl (size32p p) ?_
    | (go_at_call 14; refine HF'.out.mono ?_; rintro e w1 ⟨rfl, h1⟩))
  obtain ⟨z0, -⟩ := HC.out _ h1.out.1
  clear P1 HF'
  go_upto_region 4 with fail
  have G0 : Hid (Wg w.heap.size w (w1.alloc (.cells #[.int .u8 9] 5)) w.heap.size (.cells p.cells 32) (.slice (some ⟨w1.heap.size, 0, none⟩) 1 1) [9]) := h1.out.2
  clear h1 z0
  generalize w1.alloc (.cells #[.int .u8 9] 5) = Y at *
  obtain ⟨e0, e1, e2, e3, e4, e5, e6, e7, e8, e9, e10, e11, e12, e24, e26⟩ := HC.out _ G0.out.x
  have H0 : Hid (Calls Try.prog 24 #[.slice (some ⟨w1.heap.size, 0, none⟩) 1 1, .int .i64 p.id] Y fun e w' => ∃ q' k' c', e = .returned (.slice q' k' c') ∧ Hid (Wg w.heap.size w w' w.heap.size (.cells p.cells 32) (.slice q' k' c') ([9] ++ numI p.id))) := rwg_num G0.out (Nat.le_refl _) (fun cs h => by cases h) p.id hx (by simp)
  go_upto_region 30 with (go_at_call 24; refine H0.out.mono ?_; rintro e y0 ⟨q0, k0, c0, rfl, K0⟩)
  clear H0 e0 e1 e2 e3 e4 e5 e6 e7 e8 e9 e10 e11 e12 e24 e26
  obtain ⟨e0, e1, e2, e3, e4, e5, e6, e7, e8, e9, e10, e11, e12, e24, e26⟩ := HC.out _ K0.out.x
  have H1 : Hid (Calls Try.prog 23 #[.slice q0 k0 c0, .string p.nd] y0 fun e w' => ∃ q' k' c', e = .returned (.slice q' k' c') ∧ Hid (Wg w.heap.size w w' w.heap.size (.cells p.cells 32) (.slice q' k' c') ([9] ++ numI p.id ++ txtB p.nd))) := rwg_txt K0.out (Nat.le_refl _) (fun cs h => by cases h) p.nd (by omega) (by have h1 := num_length p.tn.size; have h2 := num_length p.nd.size; have h3 := num_length p.tw.toNat; have h4 := num_length p.ep.toNat; have h5 := num_length p.id.toNat; simp only [txtB, numI, List.length_append, List.length_cons, List.length_nil, ← Lib.size_eq]; omega)
  go_wp2_with (go_at_call 23; refine H1.out.mono ?_; rintro e y1 ⟨q1, k1, c1, rfl, K1⟩)
  go_ret2
  exact ⟨q1, k1, c1, rfl, K1.out.o, K1.out.b⟩
set_option maxHeartbeats 2000000 in
set_option maxRecDepth 100000 in
theorem renc10 (p : PL) (hk : p.kind = 10) (w : World) (H14 : Hid (∀ W, Below w.heap.size w W → Calls Try.prog 14 #[.agg p.cells] W fun e w' => e = .returned (.bool true) ∧ Below W.heap.size W w')) (hx : 0 ≤ p.id ∧ p.id < 9223372036854775808) (hy : 0 ≤ p.st ∧ p.st < 9223372036854775808) :
    Calls Try.prog 11 #[.agg p.cells] w fun e w' => ∃ q' k' c', e = .returned (.tuple #[.slice q' k' c', .int .i64 0]) ∧ Own w' w.heap.size (.slice q' k' c') ([10] ++ numI p.id ++ numI p.st) ∧ Bw w.heap.size w w' := by
  have hc : p.cells = #[.int .i64 10, .string p.tn, .int .i64 p.tw, .int .i64 p.q0, .int .i64 p.q1, .int .i64 p.q2, .int .i64 p.q3, .string p.nd, .int .i64 p.ep, .int .i64 p.v0, .int .i64 p.v1, .int .i64 p.v2, .int .i64 p.v3, .int .i64 p.jb.id, .string p.jb.tn, .int .i64 p.jb.pr, .int .i64 p.jb.rt, .slice p.jb.pa.a p.jb.pa.n p.jb.pa.c, .slice p.jb.tk.a p.jb.tk.n p.jb.tk.c, .int .i64 p.jb.st, .int .i64 p.jb.at', .slice p.jb.nd.a p.jb.nd.n p.jb.nd.c, .int .i64 p.jb.sr, .slice p.jb.dn.a p.jb.dn.n p.jb.dn.c, .int .i64 p.id, .slice p.ns.a p.ns.n p.ns.c, .int .i64 p.st] := by unfold PL.cells; rw [hk]; rfl
  have HC : Hid (∀ W : World, W.heap[w.heap.size]? = some (.cells p.cells 32 (0, 0)) → W.cell? ⟨w.heap.size, 0, none⟩ = some (.int .i64 10) ∧ W.cell? ⟨w.heap.size, 1, none⟩ = some (.string p.tn) ∧ W.cell? ⟨w.heap.size, 2, none⟩ = some (.int .i64 p.tw) ∧ W.cell? ⟨w.heap.size, 3, none⟩ = some (.int .i64 p.q0) ∧ W.cell? ⟨w.heap.size, 4, none⟩ = some (.int .i64 p.q1) ∧ W.cell? ⟨w.heap.size, 5, none⟩ = some (.int .i64 p.q2) ∧ W.cell? ⟨w.heap.size, 6, none⟩ = some (.int .i64 p.q3) ∧ W.cell? ⟨w.heap.size, 7, none⟩ = some (.string p.nd) ∧ W.cell? ⟨w.heap.size, 8, none⟩ = some (.int .i64 p.ep) ∧ W.cell? ⟨w.heap.size, 9, none⟩ = some (.int .i64 p.v0) ∧ W.cell? ⟨w.heap.size, 10, none⟩ = some (.int .i64 p.v1) ∧ W.cell? ⟨w.heap.size, 11, none⟩ = some (.int .i64 p.v2) ∧ W.cell? ⟨w.heap.size, 12, none⟩ = some (.int .i64 p.v3) ∧ W.cell? ⟨w.heap.size, 24, none⟩ = some (.int .i64 p.id) ∧ W.cell? ⟨w.heap.size, 26, none⟩ = some (.int .i64 p.st)) := fun W h => by
    rw [hc] at h
    exact c27b h
  have P1 : Hid ((w.alloc (.cells p.cells 32)).heap[w.heap.size]? = some (.cells p.cells 32 (0, 0))) := new0
  have HB : Hid (Below w.heap.size w (w.alloc (.cells p.cells 32))) := (Below.refl _ w).alloc (Nat.le_refl _) _
  have HF' : Hid (Calls Try.prog 14 #[.agg p.cells] (w.alloc (.cells p.cells 32)) fun e w' => e = .returned (.bool true) ∧ Hid (w'.heap[w.heap.size]? = some (.cells p.cells 32 (0, 0)) ∧ Wg w.heap.size w (w'.alloc (.cells #[.int .u8 10] 5)) w.heap.size (.cells p.cells 32) (.slice (some ⟨w'.heap.size, 0, none⟩) 1 1) [10])) := (H14.out _ HB.out).mono fun e w' ⟨h1, h2⟩ => ⟨h1, at_below h2 (Nat.le_refl _) P1.out, rwg_start p h2 10⟩
  clear H14 HB hk hc
  go_enter Try.func11, Try.ntmps11
  go_upto_region 1 with fail
  generalize w.alloc (.cells p.cells 32) = W at *
  go_upto_region 3 with (first
    | refine wpList_load_row rfl 32 _ rfl w.heap.size rfl 32 p.cells (0, 0) _ P1.out Try.underlying32 rfl (size32p p) ?_
    | (go_at_call 14; refine HF'.out.mono ?_; rintro e w1 ⟨rfl, h1⟩))
  obtain ⟨z0, -⟩ := HC.out _ h1.out.1
  clear P1 HF'
  go_upto_region 4 with fail
  have G0 : Hid (Wg w.heap.size w (w1.alloc (.cells #[.int .u8 10] 5)) w.heap.size (.cells p.cells 32) (.slice (some ⟨w1.heap.size, 0, none⟩) 1 1) [10]) := h1.out.2
  clear h1 z0
  generalize w1.alloc (.cells #[.int .u8 10] 5) = Y at *
  obtain ⟨e0, e1, e2, e3, e4, e5, e6, e7, e8, e9, e10, e11, e12, e24, e26⟩ := HC.out _ G0.out.x
  have H0 : Hid (Calls Try.prog 24 #[.slice (some ⟨w1.heap.size, 0, none⟩) 1 1, .int .i64 p.id] Y fun e w' => ∃ q' k' c', e = .returned (.slice q' k' c') ∧ Hid (Wg w.heap.size w w' w.heap.size (.cells p.cells 32) (.slice q' k' c') ([10] ++ numI p.id))) := rwg_num G0.out (Nat.le_refl _) (fun cs h => by cases h) p.id hx (by simp)
  go_upto_region 33 with (go_at_call 24; refine H0.out.mono ?_; rintro e y0 ⟨q0, k0, c0, rfl, K0⟩)
  clear H0 e0 e1 e2 e3 e4 e5 e6 e7 e8 e9 e10 e11 e12 e24 e26
  obtain ⟨e0, e1, e2, e3, e4, e5, e6, e7, e8, e9, e10, e11, e12, e24, e26⟩ := HC.out _ K0.out.x
  have H1 : Hid (Calls Try.prog 24 #[.slice q0 k0 c0, .int .i64 p.st] y0 fun e w' => ∃ q' k' c', e = .returned (.slice q' k' c') ∧ Hid (Wg w.heap.size w w' w.heap.size (.cells p.cells 32) (.slice q' k' c') ([10] ++ numI p.id ++ numI p.st))) := rwg_num K0.out (Nat.le_refl _) (fun cs h => by cases h) p.st hy (by have h1 := num_length p.tn.size; have h2 := num_length p.nd.size; have h3 := num_length p.tw.toNat; have h4 := num_length p.ep.toNat; have h5 := num_length p.id.toNat; simp only [txtB, numI, List.length_append, List.length_cons, List.length_nil, ← Lib.size_eq]; omega)
  go_wp2_with (go_at_call 24; refine H1.out.mono ?_; rintro e y1 ⟨q1, k1, c1, rfl, K1⟩)
  go_ret2
  exact ⟨q1, k1, c1, rfl, K1.out.o, K1.out.b⟩
set_option maxHeartbeats 2000000 in
set_option maxRecDepth 100000 in
theorem renc11 (p : PL) (hk : p.kind = 11) (w : World) (H14 : Hid (∀ W, Below w.heap.size w W → Calls Try.prog 14 #[.agg p.cells] W fun e w' => e = .returned (.bool true) ∧ Below W.heap.size W w'))  :
    Calls Try.prog 11 #[.agg p.cells] w fun e w' => ∃ q' k' c', e = .returned (.tuple #[.slice q' k' c', .int .i64 0]) ∧ Own w' w.heap.size (.slice q' k' c') ([11]) ∧ Bw w.heap.size w w' := by
  have hc : p.cells = #[.int .i64 11, .string p.tn, .int .i64 p.tw, .int .i64 p.q0, .int .i64 p.q1, .int .i64 p.q2, .int .i64 p.q3, .string p.nd, .int .i64 p.ep, .int .i64 p.v0, .int .i64 p.v1, .int .i64 p.v2, .int .i64 p.v3, .int .i64 p.jb.id, .string p.jb.tn, .int .i64 p.jb.pr, .int .i64 p.jb.rt, .slice p.jb.pa.a p.jb.pa.n p.jb.pa.c, .slice p.jb.tk.a p.jb.tk.n p.jb.tk.c, .int .i64 p.jb.st, .int .i64 p.jb.at', .slice p.jb.nd.a p.jb.nd.n p.jb.nd.c, .int .i64 p.jb.sr, .slice p.jb.dn.a p.jb.dn.n p.jb.dn.c, .int .i64 p.id, .slice p.ns.a p.ns.n p.ns.c, .int .i64 p.st] := by unfold PL.cells; rw [hk]; rfl
  have HC : Hid (∀ W : World, W.heap[w.heap.size]? = some (.cells p.cells 32 (0, 0)) → W.cell? ⟨w.heap.size, 0, none⟩ = some (.int .i64 11) ∧ W.cell? ⟨w.heap.size, 1, none⟩ = some (.string p.tn) ∧ W.cell? ⟨w.heap.size, 2, none⟩ = some (.int .i64 p.tw) ∧ W.cell? ⟨w.heap.size, 3, none⟩ = some (.int .i64 p.q0) ∧ W.cell? ⟨w.heap.size, 4, none⟩ = some (.int .i64 p.q1) ∧ W.cell? ⟨w.heap.size, 5, none⟩ = some (.int .i64 p.q2) ∧ W.cell? ⟨w.heap.size, 6, none⟩ = some (.int .i64 p.q3) ∧ W.cell? ⟨w.heap.size, 7, none⟩ = some (.string p.nd) ∧ W.cell? ⟨w.heap.size, 8, none⟩ = some (.int .i64 p.ep) ∧ W.cell? ⟨w.heap.size, 9, none⟩ = some (.int .i64 p.v0) ∧ W.cell? ⟨w.heap.size, 10, none⟩ = some (.int .i64 p.v1) ∧ W.cell? ⟨w.heap.size, 11, none⟩ = some (.int .i64 p.v2) ∧ W.cell? ⟨w.heap.size, 12, none⟩ = some (.int .i64 p.v3) ∧ W.cell? ⟨w.heap.size, 24, none⟩ = some (.int .i64 p.id) ∧ W.cell? ⟨w.heap.size, 26, none⟩ = some (.int .i64 p.st)) := fun W h => by
    rw [hc] at h
    exact c27b h
  have P1 : Hid ((w.alloc (.cells p.cells 32)).heap[w.heap.size]? = some (.cells p.cells 32 (0, 0))) := new0
  have HB : Hid (Below w.heap.size w (w.alloc (.cells p.cells 32))) := (Below.refl _ w).alloc (Nat.le_refl _) _
  have HF' : Hid (Calls Try.prog 14 #[.agg p.cells] (w.alloc (.cells p.cells 32)) fun e w' => e = .returned (.bool true) ∧ Hid (w'.heap[w.heap.size]? = some (.cells p.cells 32 (0, 0)) ∧ Wg w.heap.size w (w'.alloc (.cells #[.int .u8 11] 5)) w.heap.size (.cells p.cells 32) (.slice (some ⟨w'.heap.size, 0, none⟩) 1 1) [11])) := (H14.out _ HB.out).mono fun e w' ⟨h1, h2⟩ => ⟨h1, at_below h2 (Nat.le_refl _) P1.out, rwg_start p h2 11⟩
  clear H14 HB hk hc
  go_enter Try.func11, Try.ntmps11
  go_upto_region 1 with fail
  generalize w.alloc (.cells p.cells 32) = W at *
  go_upto_region 3 with (first
    | refine wpList_load_row rfl 32 _ rfl w.heap.size rfl 32 p.cells (0, 0) _ P1.out Try.underlying32 rfl (size32p p) ?_
    | (go_at_call 14; refine HF'.out.mono ?_; rintro e w1 ⟨rfl, h1⟩))
  obtain ⟨z0, -⟩ := HC.out _ h1.out.1
  clear P1 HF'
  go_upto_region 4 with fail
  have G0 : Hid (Wg w.heap.size w (w1.alloc (.cells #[.int .u8 11] 5)) w.heap.size (.cells p.cells 32) (.slice (some ⟨w1.heap.size, 0, none⟩) 1 1) [11]) := h1.out.2
  clear h1 z0
  generalize w1.alloc (.cells #[.int .u8 11] 5) = Y at *
  obtain ⟨e0, e1, e2, e3, e4, e5, e6, e7, e8, e9, e10, e11, e12, e24, e26⟩ := HC.out _ G0.out.x
  go_wp2_with fail
  go_ret2
  exact ⟨_, 1, 1, rfl, G0.out.o, G0.out.b⟩
end Go.Proofs.Ytnkkiepoljbhlaa
