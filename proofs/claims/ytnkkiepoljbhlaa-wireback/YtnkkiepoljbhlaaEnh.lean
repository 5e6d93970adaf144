/-
  Records as bytes: recordBytes of the kinds that have no list (but 3).
-/
import Derived.Test.YtnkkiepoljbhlaaEng
namespace Go.Proofs.Ytnkkiepoljbhlaa
open Go.RowKit

set_option maxHeartbeats 400000 in
theorem kind1 (s : ByteArray) (x : Int) (v : V4) (w : World) : Calls Try.prog 98 #[.agg #[.string s, .int .i64 x, .int .i64 v.a, .int .i64 v.b, .int .i64 v.c, .int .i64 v.d]] w fun e w' => e = .returned (.int .i64 1) ∧ Hid (Below w.heap.size w w') := by
  go_enter Try.func98, Try.ntmps98
  go_wp2_with fail
  go_ret
  exact ⟨rfl, (Below.refl _ w).alloc (Nat.le_refl _) _⟩
set_option maxHeartbeats 2000000 in
set_option maxRecDepth 100000 in
theorem recB1 (s : ByteArray) (x : Int) (v : V4) (w : World) (hs : s.size ≤ 35184372088832) (hx : 0 ≤ x ∧ x < 9223372036854775808) (hv : v.pos) (hz : s.size + 100 ≤ 35184372088832) :
    Calls Try.prog 22 #[.iface 61 (.agg #[.string s, .int .i64 x, .int .i64 v.a, .int .i64 v.b, .int .i64 v.c, .int .i64 v.d])] w fun e w' => ∃ q' k' c', e = .returned (.slice q' k' c') ∧ Own w' w.heap.size (.slice q' k' c') ([1] ++ txtB s ++ numI x ++ vecB v) ∧ Bw w.heap.size w w' := by
  have a0 := assert_yes (x := 35) (v := .agg #[.string s, .int .i64 x, .int .i64 v.a, .int .i64 v.b, .int .i64 v.c, .int .i64 v.d]) Try.underlying61
  have HK : Hid (Calls Try.prog 98 #[.agg #[.string s, .int .i64 x, .int .i64 v.a, .int .i64 v.b, .int .i64 v.c, .int .i64 v.d]] w fun e w' => e = .returned (.int .i64 1) ∧ Hid (Below w.heap.size w w')) := kind1 s x v w
  go_enter Try.func22, Try.ntmps22
  go_upto_region 5 with (go_at_call 98; refine HK.out.mono ?_; rintro e w1 ⟨rfl, b1⟩)
  have G0 : Hid (Wg w.heap.size w ((w1.alloc (.cells #[.int .u8 1] 5)).alloc (.cells #[.string s, .int .i64 x, .int .i64 v.a, .int .i64 v.b, .int .i64 v.c, .int .i64 v.d] 61)) (w1.heap.size + 1) (.cells #[.string s, .int .i64 x, .int .i64 v.a, .int .i64 v.b, .int .i64 v.c, .int .i64 v.d] 61) (.slice (some ⟨w1.heap.size, 0, none⟩) 1 1) [1]) := wg_start b1.out 1 _
  generalize ((w1.alloc (.cells #[.int .u8 1] 5)).alloc (.cells #[.string s, .int .i64 x, .int .i64 v.a, .int .i64 v.b, .int .i64 v.c, .int .i64 v.d] 61)) = W at *
  generalize w1.heap.size + 1 = bx at *
  have e00 : W.cell? ⟨bx, 0, none⟩ = some (.string s) := Lib.cell_of_heap G0.out.x 0
  have e01 : W.cell? ⟨bx, 1, none⟩ = some (.int .i64 x) := Lib.cell_of_heap G0.out.x 1
  have e02 : W.cell? ⟨bx, 2, none⟩ = some (.int .i64 v.a) := Lib.cell_of_heap G0.out.x 2
  have e03 : W.cell? ⟨bx, 3, none⟩ = some (.int .i64 v.b) := Lib.cell_of_heap G0.out.x 3
  have e04 : W.cell? ⟨bx, 4, none⟩ = some (.int .i64 v.c) := Lib.cell_of_heap G0.out.x 4
  have e05 : W.cell? ⟨bx, 5, none⟩ = some (.int .i64 v.d) := Lib.cell_of_heap G0.out.x 5
  have H0 : Hid (Calls Try.prog 47 #[.slice (some ⟨w1.heap.size, 0, none⟩) 1 1, .string s] W fun e w' => ∃ q' k' c', e = .returned (.slice q' k' c') ∧ Hid (Wg w.heap.size w w' bx (.cells #[.string s, .int .i64 x, .int .i64 v.a, .int .i64 v.b, .int .i64 v.c, .int .i64 v.d] 61) (.slice q' k' c') ([1] ++ txtB s))) := wg_txt G0.out (Nat.le_refl _) (fun cs h => by cases h) s hs (by simp)
  go_upto_region 6 with (go_at_call 47; refine H0.out.mono ?_; rintro e y0 ⟨q0, k0, c0, rfl, K0⟩)
  clear H0 e00 e01 e02 e03 e04 e05
  have e10 : y0.cell? ⟨bx, 0, none⟩ = some (.string s) := Lib.cell_of_heap K0.out.x 0
  have e11 : y0.cell? ⟨bx, 1, none⟩ = some (.int .i64 x) := Lib.cell_of_heap K0.out.x 1
  have e12 : y0.cell? ⟨bx, 2, none⟩ = some (.int .i64 v.a) := Lib.cell_of_heap K0.out.x 2
  have e13 : y0.cell? ⟨bx, 3, none⟩ = some (.int .i64 v.b) := Lib.cell_of_heap K0.out.x 3
  have e14 : y0.cell? ⟨bx, 4, none⟩ = some (.int .i64 v.c) := Lib.cell_of_heap K0.out.x 4
  have e15 : y0.cell? ⟨bx, 5, none⟩ = some (.int .i64 v.d) := Lib.cell_of_heap K0.out.x 5
  have H1 : Hid (Calls Try.prog 48 #[.slice q0 k0 c0, .int .i64 x] y0 fun e w' => ∃ q' k' c', e = .returned (.slice q' k' c') ∧ Hid (Wg w.heap.size w w' bx (.cells #[.string s, .int .i64 x, .int .i64 v.a, .int .i64 v.b, .int .i64 v.c, .int .i64 v.d] 61) (.slice q' k' c') ([1] ++ txtB s ++ numI x))) := wg_num K0.out (Nat.le_refl _) (fun cs h => by cases h) x hx (by have h1 := num_length s.size; have h2 := num_length x.toNat; simp only [txtB, List.length_append, List.length_cons, List.length_nil, ← Lib.size_eq]; omega)
  go_upto_region 7 with (go_at_call 48; refine H1.out.mono ?_; rintro e y1 ⟨q1, k1, c1, rfl, K1⟩)
  clear H1 e10 e11 e12 e13 e14 e15
  have e20 : y1.cell? ⟨bx, 0, none⟩ = some (.string s) := Lib.cell_of_heap K1.out.x 0
  have e21 : y1.cell? ⟨bx, 1, none⟩ = some (.int .i64 x) := Lib.cell_of_heap K1.out.x 1
  have e22 : y1.cell? ⟨bx, 2, none⟩ = some (.int .i64 v.a) := Lib.cell_of_heap K1.out.x 2
  have e23 : y1.cell? ⟨bx, 3, none⟩ = some (.int .i64 v.b) := Lib.cell_of_heap K1.out.x 3
  have e24 : y1.cell? ⟨bx, 4, none⟩ = some (.int .i64 v.c) := Lib.cell_of_heap K1.out.x 4
  have e25 : y1.cell? ⟨bx, 5, none⟩ = some (.int .i64 v.d) := Lib.cell_of_heap K1.out.x 5
  have H2 : Hid (Calls Try.prog 49 #[.slice q1 k1 c1, .agg #[.int .i64 v.a, .int .i64 v.b, .int .i64 v.c, .int .i64 v.d]] y1 fun e w' => ∃ q' k' c', e = .returned (.slice q' k' c') ∧ Hid (Wg w.heap.size w w' bx (.cells #[.string s, .int .i64 x, .int .i64 v.a, .int .i64 v.b, .int .i64 v.c, .int .i64 v.d] 61) (.slice q' k' c') ([1] ++ txtB s ++ numI x ++ vecB v))) := wg_vec K1.out (Nat.le_refl _) (fun cs h => by cases h) v hv (by have h1 := num_length s.size; have h2 := num_length x.toNat; simp only [txtB, numI, List.length_append, List.length_cons, List.length_nil, ← Lib.size_eq]; omega)
  go_wp2_with (go_at_call 49; refine H2.out.mono ?_; rintro e y2 ⟨q2, k2, c2, rfl, K2⟩)
  clear H2 e20 e21 e22 e23 e24 e25
  go_ret
  exact ⟨q2, k2, c2, rfl, by simpa only [List.append_assoc, List.cons_append, List.nil_append] using K2.out.o, K2.out.b⟩
set_option maxHeartbeats 400000 in
theorem kind2 (s : ByteArray) (x : Int) (v : V4) (w : World) : Calls Try.prog 99 #[.agg #[.string s, .int .i64 x, .int .i64 v.a, .int .i64 v.b, .int .i64 v.c, .int .i64 v.d]] w fun e w' => e = .returned (.int .i64 2) ∧ Hid (Below w.heap.size w w') := by
  go_enter Try.func99, Try.ntmps99
  go_wp2_with fail
  go_ret
  exact ⟨rfl, (Below.refl _ w).alloc (Nat.le_refl _) _⟩
set_option maxHeartbeats 2000000 in
set_option maxRecDepth 100000 in
theorem recB2 (s : ByteArray) (x : Int) (v : V4) (w : World) (hs : s.size ≤ 35184372088832) (hx : 0 ≤ x ∧ x < 9223372036854775808) (hv : v.pos) (hz : s.size + 100 ≤ 35184372088832) :
    Calls Try.prog 22 #[.iface 63 (.agg #[.string s, .int .i64 x, .int .i64 v.a, .int .i64 v.b, .int .i64 v.c, .int .i64 v.d])] w fun e w' => ∃ q' k' c', e = .returned (.slice q' k' c') ∧ Own w' w.heap.size (.slice q' k' c') ([2] ++ txtB s ++ numI x ++ vecB v) ∧ Bw w.heap.size w w' := by
  have a0 := assert_no (t := 63) (x := 35) (v := .agg #[.string s, .int .i64 x, .int .i64 v.a, .int .i64 v.b, .int .i64 v.c, .int .i64 v.d]) (by simp) Try.underlying61 Try.zeroValue61
  have a1 := assert_yes (x := 35) (v := .agg #[.string s, .int .i64 x, .int .i64 v.a, .int .i64 v.b, .int .i64 v.c, .int .i64 v.d]) Try.underlying63
  have HK : Hid (Calls Try.prog 99 #[.agg #[.string s, .int .i64 x, .int .i64 v.a, .int .i64 v.b, .int .i64 v.c, .int .i64 v.d]] w fun e w' => e = .returned (.int .i64 2) ∧ Hid (Below w.heap.size w w')) := kind2 s x v w
  go_enter Try.func22, Try.ntmps22
  go_upto_region 10 with (go_at_call 99; refine HK.out.mono ?_; rintro e w1 ⟨rfl, b1⟩)
  have G0 : Hid (Wg w.heap.size w ((w1.alloc (.cells #[.int .u8 2] 5)).alloc (.cells #[.string s, .int .i64 x, .int .i64 v.a, .int .i64 v.b, .int .i64 v.c, .int .i64 v.d] 63)) (w1.heap.size + 1) (.cells #[.string s, .int .i64 x, .int .i64 v.a, .int .i64 v.b, .int .i64 v.c, .int .i64 v.d] 63) (.slice (some ⟨w1.heap.size, 0, none⟩) 1 1) [2]) := wg_start b1.out 2 _
  generalize ((w1.alloc (.cells #[.int .u8 2] 5)).alloc (.cells #[.string s, .int .i64 x, .int .i64 v.a, .int .i64 v.b, .int .i64 v.c, .int .i64 v.d] 63)) = W at *
  generalize w1.heap.size + 1 = bx at *
  have e00 : W.cell? ⟨bx, 0, none⟩ = some (.string s) := Lib.cell_of_heap G0.out.x 0
  have e01 : W.cell? ⟨bx, 1, none⟩ = some (.int .i64 x) := Lib.cell_of_heap G0.out.x 1
  have e02 : W.cell? ⟨bx, 2, none⟩ = some (.int .i64 v.a) := Lib.cell_of_heap G0.out.x 2
  have e03 : W.cell? ⟨bx, 3, none⟩ = some (.int .i64 v.b) := Lib.cell_of_heap G0.out.x 3
  have e04 : W.cell? ⟨bx, 4, none⟩ = some (.int .i64 v.c) := Lib.cell_of_heap G0.out.x 4
  have e05 : W.cell? ⟨bx, 5, none⟩ = some (.int .i64 v.d) := Lib.cell_of_heap G0.out.x 5
  have H0 : Hid (Calls Try.prog 47 #[.slice (some ⟨w1.heap.size, 0, none⟩) 1 1, .string s] W fun e w' => ∃ q' k' c', e = .returned (.slice q' k' c') ∧ Hid (Wg w.heap.size w w' bx (.cells #[.string s, .int .i64 x, .int .i64 v.a, .int .i64 v.b, .int .i64 v.c, .int .i64 v.d] 63) (.slice q' k' c') ([2] ++ txtB s))) := wg_txt G0.out (Nat.le_refl _) (fun cs h => by cases h) s hs (by simp)
  go_upto_region 11 with (go_at_call 47; refine H0.out.mono ?_; rintro e y0 ⟨q0, k0, c0, rfl, K0⟩)
  clear H0 e00 e01 e02 e03 e04 e05
  have e10 : y0.cell? ⟨bx, 0, none⟩ = some (.string s) := Lib.cell_of_heap K0.out.x 0
  have e11 : y0.cell? ⟨bx, 1, none⟩ = some (.int .i64 x) := Lib.cell_of_heap K0.out.x 1
  have e12 : y0.cell? ⟨bx, 2, none⟩ = some (.int .i64 v.a) := Lib.cell_of_heap K0.out.x 2
  have e13 : y0.cell? ⟨bx, 3, none⟩ = some (.int .i64 v.b) := Lib.cell_of_heap K0.out.x 3
  have e14 : y0.cell? ⟨bx, 4, none⟩ = some (.int .i64 v.c) := Lib.cell_of_heap K0.out.x 4
  have e15 : y0.cell? ⟨bx, 5, none⟩ = some (.int .i64 v.d) := Lib.cell_of_heap K0.out.x 5
  have H1 : Hid (Calls Try.prog 48 #[.slice q0 k0 c0, .int .i64 x] y0 fun e w' => ∃ q' k' c', e = .returned (.slice q' k' c') ∧ Hid (Wg w.heap.size w w' bx (.cells #[.string s, .int .i64 x, .int .i64 v.a, .int .i64 v.b, .int .i64 v.c, .int .i64 v.d] 63) (.slice q' k' c') ([2] ++ txtB s ++ numI x))) := wg_num K0.out (Nat.le_refl _) (fun cs h => by cases h) x hx (by have h1 := num_length s.size; have h2 := num_length x.toNat; simp only [txtB, List.length_append, List.length_cons, List.length_nil, ← Lib.size_eq]; omega)
  go_upto_region 12 with (go_at_call 48; refine H1.out.mono ?_; rintro e y1 ⟨q1, k1, c1, rfl, K1⟩)
  clear H1 e10 e11 e12 e13 e14 e15
  have e20 : y1.cell? ⟨bx, 0, none⟩ = some (.string s) := Lib.cell_of_heap K1.out.x 0
  have e21 : y1.cell? ⟨bx, 1, none⟩ = some (.int .i64 x) := Lib.cell_of_heap K1.out.x 1
  have e22 : y1.cell? ⟨bx, 2, none⟩ = some (.int .i64 v.a) := Lib.cell_of_heap K1.out.x 2
  have e23 : y1.cell? ⟨bx, 3, none⟩ = some (.int .i64 v.b) := Lib.cell_of_heap K1.out.x 3
  have e24 : y1.cell? ⟨bx, 4, none⟩ = some (.int .i64 v.c) := Lib.cell_of_heap K1.out.x 4
  have e25 : y1.cell? ⟨bx, 5, none⟩ = some (.int .i64 v.d) := Lib.cell_of_heap K1.out.x 5
  have H2 : Hid (Calls Try.prog 49 #[.slice q1 k1 c1, .agg #[.int .i64 v.a, .int .i64 v.b, .int .i64 v.c, .int .i64 v.d]] y1 fun e w' => ∃ q' k' c', e = .returned (.slice q' k' c') ∧ Hid (Wg w.heap.size w w' bx (.cells #[.string s, .int .i64 x, .int .i64 v.a, .int .i64 v.b, .int .i64 v.c, .int .i64 v.d] 63) (.slice q' k' c') ([2] ++ txtB s ++ numI x ++ vecB v))) := wg_vec K1.out (Nat.le_refl _) (fun cs h => by cases h) v hv (by have h1 := num_length s.size; have h2 := num_length x.toNat; simp only [txtB, numI, List.length_append, List.length_cons, List.length_nil, ← Lib.size_eq]; omega)
  go_wp2_with (go_at_call 49; refine H2.out.mono ?_; rintro e y2 ⟨q2, k2, c2, rfl, K2⟩)
  clear H2 e20 e21 e22 e23 e24 e25
  go_ret
  exact ⟨q2, k2, c2, rfl, by simpa only [List.append_assoc, List.cons_append, List.nil_append] using K2.out.o, K2.out.b⟩
set_option maxHeartbeats 2000000 in
set_option maxRecDepth 100000 in
theorem recB4 (s : ByteArray) (w : World) (hs : s.size ≤ 35184372088832) :
    Calls Try.prog 22 #[.iface 64 (.agg #[.string s])] w fun e w' => ∃ q' k' c', e = .returned (.slice q' k' c') ∧ Own w' w.heap.size (.slice q' k' c') ([4] ++ txtB s) ∧ Bw w.heap.size w w' := by
  have a0 := assert_no (t := 64) (x := 35) (v := .agg #[.string s]) (by simp) Try.underlying61 Try.zeroValue61
  have a1 := assert_no (t := 64) (x := 35) (v := .agg #[.string s]) (by simp) Try.underlying63 Try.zeroValue63
  have a2 := assert_no (t := 64) (x := 35) (v := .agg #[.string s]) (by simp) Try.underlying57 Try.zeroValue57
  have a3 := assert_yes (x := 35) (v := .agg #[.string s]) Try.underlying64
  have HK : Hid (Calls Try.prog 100 #[.agg #[.string s]] w fun e w' => e = .returned (.int .i64 4) ∧ Hid (Below w.heap.size w w')) := kind4 s w
  go_enter Try.func22, Try.ntmps22
  go_upto_region 18 with (go_at_call 100; refine HK.out.mono ?_; rintro e w1 ⟨rfl, b1⟩)
  have G0 : Hid (Wg w.heap.size w ((w1.alloc (.cells #[.int .u8 4] 5)).alloc (.cells #[.string s] 64)) (w1.heap.size + 1) (.cells #[.string s] 64) (.slice (some ⟨w1.heap.size, 0, none⟩) 1 1) [4]) := wg_start b1.out 4 _
  generalize ((w1.alloc (.cells #[.int .u8 4] 5)).alloc (.cells #[.string s] 64)) = W at *
  generalize w1.heap.size + 1 = bx at *
  have e00 : W.cell? ⟨bx, 0, none⟩ = some (.string s) := Lib.cell_of_heap G0.out.x 0
  have H0 : Hid (Calls Try.prog 47 #[.slice (some ⟨w1.heap.size, 0, none⟩) 1 1, .string s] W fun e w' => ∃ q' k' c', e = .returned (.slice q' k' c') ∧ Hid (Wg w.heap.size w w' bx (.cells #[.string s] 64) (.slice q' k' c') ([4] ++ txtB s))) := wg_txt G0.out (Nat.le_refl _) (fun cs h => by cases h) s hs (by simp)
  go_wp2_with (go_at_call 47; refine H0.out.mono ?_; rintro e y0 ⟨q0, k0, c0, rfl, K0⟩)
  clear H0 e00
  go_ret
  exact ⟨q0, k0, c0, rfl, by simpa only [List.append_assoc, List.cons_append, List.nil_append] using K0.out.o, K0.out.b⟩
set_option maxHeartbeats 400000 in
theorem kind6 (x : Int) (w : World) : Calls Try.prog 102 #[.agg #[.int .i64 x]] w fun e w' => e = .returned (.int .i64 6) ∧ Hid (Below w.heap.size w w') := by
  go_enter Try.func102, Try.ntmps102
  go_wp2_with fail
  go_ret
  exact ⟨rfl, (Below.refl _ w).alloc (Nat.le_refl _) _⟩
set_option maxHeartbeats 2000000 in
set_option maxRecDepth 100000 in
theorem recB6 (x : Int) (w : World) (hx : 0 ≤ x ∧ x < 9223372036854775808) :
    Calls Try.prog 22 #[.iface 68 (.agg #[.int .i64 x])] w fun e w' => ∃ q' k' c', e = .returned (.slice q' k' c') ∧ Own w' w.heap.size (.slice q' k' c') ([6] ++ numI x) ∧ Bw w.heap.size w w' := by
  have a0 := assert_no (t := 68) (x := 35) (v := .agg #[.int .i64 x]) (by simp) Try.underlying61 Try.zeroValue61
  have a1 := assert_no (t := 68) (x := 35) (v := .agg #[.int .i64 x]) (by simp) Try.underlying63 Try.zeroValue63
  have a2 := assert_no (t := 68) (x := 35) (v := .agg #[.int .i64 x]) (by simp) Try.underlying57 Try.zeroValue57
  have a3 := assert_no (t := 68) (x := 35) (v := .agg #[.int .i64 x]) (by simp) Try.underlying64 Try.zeroValue64
  have a4 := assert_no (t := 68) (x := 35) (v := .agg #[.int .i64 x]) (by simp) Try.underlying66 Try.zeroValue66
  have a5 := assert_yes (x := 35) (v := .agg #[.int .i64 x]) Try.underlying68
  have HK : Hid (Calls Try.prog 102 #[.agg #[.int .i64 x]] w fun e w' => e = .returned (.int .i64 6) ∧ Hid (Below w.heap.size w w')) := kind6 x w
  go_enter Try.func22, Try.ntmps22
  go_upto_region 24 with (go_at_call 102; refine HK.out.mono ?_; rintro e w1 ⟨rfl, b1⟩)
  have G0 : Hid (Wg w.heap.size w ((w1.alloc (.cells #[.int .u8 6] 5)).alloc (.cells #[.int .i64 x] 68)) (w1.heap.size + 1) (.cells #[.int .i64 x] 68) (.slice (some ⟨w1.heap.size, 0, none⟩) 1 1) [6]) := wg_start b1.out 6 _
  generalize ((w1.alloc (.cells #[.int .u8 6] 5)).alloc (.cells #[.int .i64 x] 68)) = W at *
  generalize w1.heap.size + 1 = bx at *
  have e00 : W.cell? ⟨bx, 0, none⟩ = some (.int .i64 x) := Lib.cell_of_heap G0.out.x 0
  have H0 : Hid (Calls Try.prog 48 #[.slice (some ⟨w1.heap.size, 0, none⟩) 1 1, .int .i64 x] W fun e w' => ∃ q' k' c', e = .returned (.slice q' k' c') ∧ Hid (Wg w.heap.size w w' bx (.cells #[.int .i64 x] 68) (.slice q' k' c') ([6] ++ numI x))) := wg_num G0.out (Nat.le_refl _) (fun cs h => by cases h) x hx (by simp)
  go_wp2_with (go_at_call 48; refine H0.out.mono ?_; rintro e y0 ⟨q0, k0, c0, rfl, K0⟩)
  clear H0 e00
  go_ret
  exact ⟨q0, k0, c0, rfl, by simpa only [List.append_assoc, List.cons_append, List.nil_append] using K0.out.o, K0.out.b⟩
set_option maxHeartbeats 400000 in
theorem kind8 (x : Int) (w : World) : Calls Try.prog 104 #[.agg #[.int .i64 x]] w fun e w' => e = .returned (.int .i64 8) ∧ Hid (Below w.heap.size w w') := by
  go_enter Try.func104, Try.ntmps104
  go_wp2_with fail
  go_ret
  exact ⟨rfl, (Below.refl _ w).alloc (Nat.le_refl _) _⟩
set_option maxHeartbeats 2000000 in
set_option maxRecDepth 100000 in
theorem recB8 (x : Int) (w : World) (hx : 0 ≤ x ∧ x < 9223372036854775808) :
    Calls Try.prog 22 #[.iface 71 (.agg #[.int .i64 x])] w fun e w' => ∃ q' k' c', e = .returned (.slice q' k' c') ∧ Own w' w.heap.size (.slice q' k' c') ([8] ++ numI x) ∧ Bw w.heap.size w w' := by
  have a0 := assert_no (t := 71) (x := 35) (v := .agg #[.int .i64 x]) (by simp) Try.underlying61 Try.zeroValue61
  have a1 := assert_no (t := 71) (x := 35) (v := .agg #[.int .i64 x]) (by simp) Try.underlying63 Try.zeroValue63
  have a2 := assert_no (t := 71) (x := 35) (v := .agg #[.int .i64 x]) (by simp) Try.underlying57 Try.zeroValue57
  have a3 := assert_no (t := 71) (x := 35) (v := .agg #[.int .i64 x]) (by simp) Try.underlying64 Try.zeroValue64
  have a4 := assert_no (t := 71) (x := 35) (v := .agg #[.int .i64 x]) (by simp) Try.underlying66 Try.zeroValue66
  have a5 := assert_no (t := 71) (x := 35) (v := .agg #[.int .i64 x]) (by simp) Try.underlying68 Try.zeroValue68
  have a6 := assert_no (t := 71) (x := 35) (v := .agg #[.int .i64 x]) (by simp) Try.underlying70 Try.zeroValue70
  have a7 := assert_yes (x := 35) (v := .agg #[.int .i64 x]) Try.underlying71
  have HK : Hid (Calls Try.prog 104 #[.agg #[.int .i64 x]] w fun e w' => e = .returned (.int .i64 8) ∧ Hid (Below w.heap.size w w')) := kind8 x w
  go_enter Try.func22, Try.ntmps22
  go_upto_region 31 with (go_at_call 104; refine HK.out.mono ?_; rintro e w1 ⟨rfl, b1⟩)
  have G0 : Hid (Wg w.heap.size w ((w1.alloc (.cells #[.int .u8 8] 5)).alloc (.cells #[.int .i64 x] 71)) (w1.heap.size + 1) (.cells #[.int .i64 x] 71) (.slice (some ⟨w1.heap.size, 0, none⟩) 1 1) [8]) := wg_start b1.out 8 _
  generalize ((w1.alloc (.cells #[.int .u8 8] 5)).alloc (.cells #[.int .i64 x] 71)) = W at *
  generalize w1.heap.size + 1 = bx at *
  have e00 : W.cell? ⟨bx, 0, none⟩ = some (.int .i64 x) := Lib.cell_of_heap G0.out.x 0
  have H0 : Hid (Calls Try.prog 48 #[.slice (some ⟨w1.heap.size, 0, none⟩) 1 1, .int .i64 x] W fun e w' => ∃ q' k' c', e = .returned (.slice q' k' c') ∧ Hid (Wg w.heap.size w w' bx (.cells #[.int .i64 x] 71) (.slice q' k' c') ([8] ++ numI x))) := wg_num G0.out (Nat.le_refl _) (fun cs h => by cases h) x hx (by simp)
  go_wp2_with (go_at_call 48; refine H0.out.mono ?_; rintro e y0 ⟨q0, k0, c0, rfl, K0⟩)
  clear H0 e00
  go_ret
  exact ⟨q0, k0, c0, rfl, by simpa only [List.append_assoc, List.cons_append, List.nil_append] using K0.out.o, K0.out.b⟩
set_option maxHeartbeats 400000 in
theorem kind9 (x : Int) (s : ByteArray) (w : World) : Calls Try.prog 105 #[.agg #[.int .i64 x, .string s]] w fun e w' => e = .returned (.int .i64 9) ∧ Hid (Below w.heap.size w w') := by
  go_enter Try.func105, Try.ntmps105
  go_wp2_with fail
  go_ret
  exact ⟨rfl, (Below.refl _ w).alloc (Nat.le_refl _) _⟩
set_option maxHeartbeats 2000000 in
set_option maxRecDepth 100000 in
theorem recB9 (x : Int) (s : ByteArray) (w : World) (hx : 0 ≤ x ∧ x < 9223372036854775808) (hs : s.size ≤ 35184372088832) :
    Calls Try.prog 22 #[.iface 73 (.agg #[.int .i64 x, .string s])] w fun e w' => ∃ q' k' c', e = .returned (.slice q' k' c') ∧ Own w' w.heap.size (.slice q' k' c') ([9] ++ numI x ++ txtB s) ∧ Bw w.heap.size w w' := by
  have a0 := assert_no (t := 73) (x := 35) (v := .agg #[.int .i64 x, .string s]) (by simp) Try.underlying61 Try.zeroValue61
  have a1 := assert_no (t := 73) (x := 35) (v := .agg #[.int .i64 x, .string s]) (by simp) Try.underlying63 Try.zeroValue63
  have a2 := assert_no (t := 73) (x := 35) (v := .agg #[.int .i64 x, .string s]) (by simp) Try.underlying57 Try.zeroValue57
  have a3 := assert_no (t := 73) (x := 35) (v := .agg #[.int .i64 x, .string s]) (by simp) Try.underlying64 Try.zeroValue64
  have a4 := assert_no (t := 73) (x := 35) (v := .agg #[.int .i64 x, .string s]) (by simp) Try.underlying66 Try.zeroValue66
  have a5 := assert_no (t := 73) (x := 35) (v := .agg #[.int .i64 x, .string s]) (by simp) Try.underlying68 Try.zeroValue68
  have a6 := assert_no (t := 73) (x := 35) (v := .agg #[.int .i64 x, .string s]) (by simp) Try.underlying70 Try.zeroValue70
  have a7 := assert_no (t := 73) (x := 35) (v := .agg #[.int .i64 x, .string s]) (by simp) Try.underlying71 Try.zeroValue71
  have a8 := assert_yes (x := 35) (v := .agg #[.int .i64 x, .string s]) Try.underlying73
  have HK : Hid (Calls Try.prog 105 #[.agg #[.int .i64 x, .string s]] w fun e w' => e = .returned (.int .i64 9) ∧ Hid (Below w.heap.size w w')) := kind9 x s w
  go_enter Try.func22, Try.ntmps22
  go_upto_region 34 with (go_at_call 105; refine HK.out.mono ?_; rintro e w1 ⟨rfl, b1⟩)
  have G0 : Hid (Wg w.heap.size w ((w1.alloc (.cells #[.int .u8 9] 5)).alloc (.cells #[.int .i64 x, .string s] 73)) (w1.heap.size + 1) (.cells #[.int .i64 x, .string s] 73) (.slice (some ⟨w1.heap.size, 0, none⟩) 1 1) [9]) := wg_start b1.out 9 _
  generalize ((w1.alloc (.cells #[.int .u8 9] 5)).alloc (.cells #[.int .i64 x, .string s] 73)) = W at *
  generalize w1.heap.size + 1 = bx at *
  have e00 : W.cell? ⟨bx, 0, none⟩ = some (.int .i64 x) := Lib.cell_of_heap G0.out.x 0
  have e01 : W.cell? ⟨bx, 1, none⟩ = some (.string s) := Lib.cell_of_heap G0.out.x 1
  have H0 : Hid (Calls Try.prog 48 #[.slice (some ⟨w1.heap.size, 0, none⟩) 1 1, .int .i64 x] W fun e w' => ∃ q' k' c', e = .returned (.slice q' k' c') ∧ Hid (Wg w.heap.size w w' bx (.cells #[.int .i64 x, .string s] 73) (.slice q' k' c') ([9] ++ numI x))) := wg_num G0.out (Nat.le_refl _) (fun cs h => by cases h) x hx (by simp)
  go_upto_region 35 with (go_at_call 48; refine H0.out.mono ?_; rintro e y0 ⟨q0, k0, c0, rfl, K0⟩)
  clear H0 e00 e01
  have e10 : y0.cell? ⟨bx, 0, none⟩ = some (.int .i64 x) := Lib.cell_of_heap K0.out.x 0
  have e11 : y0.cell? ⟨bx, 1, none⟩ = some (.string s) := Lib.cell_of_heap K0.out.x 1
  have H1 : Hid (Calls Try.prog 47 #[.slice q0 k0 c0, .string s] y0 fun e w' => ∃ q' k' c', e = .returned (.slice q' k' c') ∧ Hid (Wg w.heap.size w w' bx (.cells #[.int .i64 x, .string s] 73) (.slice q' k' c') ([9] ++ numI x ++ txtB s))) := wg_txt K0.out (Nat.le_refl _) (fun cs h => by cases h) s hs (by have h2 := num_length x.toNat; simp only [numI, List.length_append, List.length_cons, List.length_nil]; omega)
  go_wp2_with (go_at_call 47; refine H1.out.mono ?_; rintro e y1 ⟨q1, k1, c1, rfl, K1⟩)
  clear H1 e10 e11
  go_ret
  exact ⟨q1, k1, c1, rfl, by simpa only [List.append_assoc, List.cons_append, List.nil_append] using K1.out.o, K1.out.b⟩
set_option maxHeartbeats 400000 in
theorem kind10 (x y : Int) (w : World) : Calls Try.prog 106 #[.agg #[.int .i64 x, .int .i64 y]] w fun e w' => e = .returned (.int .i64 10) ∧ Hid (Below w.heap.size w w') := by
  go_enter Try.func106, Try.ntmps106
  go_wp2_with fail
  go_ret
  exact ⟨rfl, (Below.refl _ w).alloc (Nat.le_refl _) _⟩
set_option maxHeartbeats 2000000 in
set_option maxRecDepth 100000 in
theorem recB10 (x y : Int) (w : World) (hx : 0 ≤ x ∧ x < 9223372036854775808) (hy : 0 ≤ y ∧ y < 9223372036854775808) :
    Calls Try.prog 22 #[.iface 75 (.agg #[.int .i64 x, .int .i64 y])] w fun e w' => ∃ q' k' c', e = .returned (.slice q' k' c') ∧ Own w' w.heap.size (.slice q' k' c') ([10] ++ numI x ++ numI y) ∧ Bw w.heap.size w w' := by
  have a0 := assert_no (t := 75) (x := 35) (v := .agg #[.int .i64 x, .int .i64 y]) (by simp) Try.underlying61 Try.zeroValue61
  have a1 := assert_no (t := 75) (x := 35) (v := .agg #[.int .i64 x, .int .i64 y]) (by simp) Try.underlying63 Try.zeroValue63
  have a2 := assert_no (t := 75) (x := 35) (v := .agg #[.int .i64 x, .int .i64 y]) (by simp) Try.underlying57 Try.zeroValue57
  have a3 := assert_no (t := 75) (x := 35) (v := .agg #[.int .i64 x, .int .i64 y]) (by simp) Try.underlying64 Try.zeroValue64
  have a4 := assert_no (t := 75) (x := 35) (v := .agg #[.int .i64 x, .int .i64 y]) (by simp) Try.underlying66 Try.zeroValue66
  have a5 := assert_no (t := 75) (x := 35) (v := .agg #[.int .i64 x, .int .i64 y]) (by simp) Try.underlying68 Try.zeroValue68
  have a6 := assert_no (t := 75) (x := 35) (v := .agg #[.int .i64 x, .int .i64 y]) (by simp) Try.underlying70 Try.zeroValue70
  have a7 := assert_no (t := 75) (x := 35) (v := .agg #[.int .i64 x, .int .i64 y]) (by simp) Try.underlying71 Try.zeroValue71
  have a8 := assert_no (t := 75) (x := 35) (v := .agg #[.int .i64 x, .int .i64 y]) (by simp) Try.underlying73 Try.zeroValue73
  have a9 := assert_yes (x := 35) (v := .agg #[.int .i64 x, .int .i64 y]) Try.underlying75
  have HK : Hid (Calls Try.prog 106 #[.agg #[.int .i64 x, .int .i64 y]] w fun e w' => e = .returned (.int .i64 10) ∧ Hid (Below w.heap.size w w')) := kind10 x y w
  go_enter Try.func22, Try.ntmps22
  go_upto_region 38 with (go_at_call 106; refine HK.out.mono ?_; rintro e w1 ⟨rfl, b1⟩)
  have G0 : Hid (Wg w.heap.size w ((w1.alloc (.cells #[.int .u8 10] 5)).alloc (.cells #[.int .i64 x, .int .i64 y] 75)) (w1.heap.size + 1) (.cells #[.int .i64 x, .int .i64 y] 75) (.slice (some ⟨w1.heap.size, 0, none⟩) 1 1) [10]) := wg_start b1.out 10 _
  generalize ((w1.alloc (.cells #[.int .u8 10] 5)).alloc (.cells #[.int .i64 x, .int .i64 y] 75)) = W at *
  generalize w1.heap.size + 1 = bx at *
  have e00 : W.cell? ⟨bx, 0, none⟩ = some (.int .i64 x) := Lib.cell_of_heap G0.out.x 0
  have e01 : W.cell? ⟨bx, 1, none⟩ = some (.int .i64 y) := Lib.cell_of_heap G0.out.x 1
  have H0 : Hid (Calls Try.prog 48 #[.slice (some ⟨w1.heap.size, 0, none⟩) 1 1, .int .i64 x] W fun e w' => ∃ q' k' c', e = .returned (.slice q' k' c') ∧ Hid (Wg w.heap.size w w' bx (.cells #[.int .i64 x, .int .i64 y] 75) (.slice q' k' c') ([10] ++ numI x))) := wg_num G0.out (Nat.le_refl _) (fun cs h => by cases h) x hx (by simp)
  go_upto_region 39 with (go_at_call 48; refine H0.out.mono ?_; rintro e y0 ⟨q0, k0, c0, rfl, K0⟩)
  clear H0 e00 e01
  have e10 : y0.cell? ⟨bx, 0, none⟩ = some (.int .i64 x) := Lib.cell_of_heap K0.out.x 0
  have e11 : y0.cell? ⟨bx, 1, none⟩ = some (.int .i64 y) := Lib.cell_of_heap K0.out.x 1
  have H1 : Hid (Calls Try.prog 48 #[.slice q0 k0 c0, .int .i64 y] y0 fun e w' => ∃ q' k' c', e = .returned (.slice q' k' c') ∧ Hid (Wg w.heap.size w w' bx (.cells #[.int .i64 x, .int .i64 y] 75) (.slice q' k' c') ([10] ++ numI x ++ numI y))) := wg_num K0.out (Nat.le_refl _) (fun cs h => by cases h) y hy (by have h2 := num_length x.toNat; simp only [numI, List.length_append, List.length_cons, List.length_nil]; omega)
  go_wp2_with (go_at_call 48; refine H1.out.mono ?_; rintro e y1 ⟨q1, k1, c1, rfl, K1⟩)
  clear H1 e10 e11
  go_ret
  exact ⟨q1, k1, c1, rfl, by simpa only [List.append_assoc, List.cons_append, List.nil_append] using K1.out.o, K1.out.b⟩
end Go.Proofs.Ytnkkiepoljbhlaa
