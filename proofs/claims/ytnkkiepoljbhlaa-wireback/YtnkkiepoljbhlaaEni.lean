/-
  Records as bytes: recordBytes of a job submitted, of a job placed, of a tick (kinds 5, 7, 11).
-/
import Derived.Test.YtnkkiepoljbhlaaEnh
namespace Go.Proofs.Ytnkkiepoljbhlaa
open Go.RowKit

set_option maxHeartbeats 400000 in
theorem kind11 (w : World) : Calls Try.prog 97 #[.agg #[]] w fun e w' => e = .returned (.int .i64 11) ∧ Hid (Below w.heap.size w w') := by
  go_enter Try.func97, Try.ntmps97
  go_wp2_with fail
  go_ret
  exact ⟨rfl, (Below.refl _ w).alloc (Nat.le_refl _) _⟩
set_option maxHeartbeats 2000000 in
set_option maxRecDepth 100000 in
theorem recB11 (w : World) :
    Calls Try.prog 22 #[.iface 59 (.agg #[])] w fun e w' => ∃ q' k' c', e = .returned (.slice q' k' c') ∧ Own w' w.heap.size (.slice q' k' c') [11] ∧ Bw w.heap.size w w' := by
  have a0 := assert_no (t := 59) (x := 35) (v := .agg #[]) (by simp) Try.underlying61 Try.zeroValue61
  have a1 := assert_no (t := 59) (x := 35) (v := .agg #[]) (by simp) Try.underlying63 Try.zeroValue63
  have a2 := assert_no (t := 59) (x := 35) (v := .agg #[]) (by simp) Try.underlying57 Try.zeroValue57
  have a3 := assert_no (t := 59) (x := 35) (v := .agg #[]) (by simp) Try.underlying64 Try.zeroValue64
  have a4 := assert_no (t := 59) (x := 35) (v := .agg #[]) (by simp) Try.underlying66 Try.zeroValue66
  have a5 := assert_no (t := 59) (x := 35) (v := .agg #[]) (by simp) Try.underlying68 Try.zeroValue68
  have a6 := assert_no (t := 59) (x := 35) (v := .agg #[]) (by simp) Try.underlying70 Try.zeroValue70
  have a7 := assert_no (t := 59) (x := 35) (v := .agg #[]) (by simp) Try.underlying71 Try.zeroValue71
  have a8 := assert_no (t := 59) (x := 35) (v := .agg #[]) (by simp) Try.underlying73 Try.zeroValue73
  have a9 := assert_no (t := 59) (x := 35) (v := .agg #[]) (by simp) Try.underlying75 Try.zeroValue75
  have HK : Hid (Calls Try.prog 97 #[.agg #[]] w fun e w' => e = .returned (.int .i64 11) ∧ Hid (Below w.heap.size w w')) := kind11 w
  go_enter Try.func22, Try.ntmps22
  go_wp2_with (go_at_call 97; refine HK.out.mono ?_; rintro e w1 ⟨rfl, b1⟩)
  go_ret
  refine ⟨some ⟨w1.heap.size, 0, none⟩, 1, 1, rfl, own_one b1.out.size, Bw.of_below (b1.out.alloc b1.out.size _) (Nat.le_refl _)⟩
set_option maxHeartbeats 400000 in
theorem kind7 (x : Int) (qa : Option Addr) (m ca : Nat) (w : World) : Calls Try.prog 103 #[.agg #[.int .i64 x, .slice qa m ca]] w fun e w' => e = .returned (.int .i64 7) ∧ Hid (Below w.heap.size w w') := by
  go_enter Try.func103, Try.ntmps103
  go_wp2_with fail
  go_ret
  exact ⟨rfl, (Below.refl _ w).alloc (Nat.le_refl _) _⟩
set_option maxHeartbeats 2000000 in
set_option maxRecDepth 100000 in
theorem recB7 (x : Int) (L : List ByteArray) (qa : Option Addr) (m ca : Nat) (w : World) (hx : 0 ≤ x ∧ x < 9223372036854775808) (hm : L.length = m) (h1 : m ≤ 1000) (hL : ∀ W, Bw w.heap.size w W → LiesV W qa (textsV L)) (hs : ∀ x ∈ L, x.size ≤ 35184372088832) (hl : 100 + (L.flatMap txtB).length ≤ 35184372088832) :
    Calls Try.prog 22 #[.iface 70 (.agg #[.int .i64 x, .slice qa m ca])] w fun e w' => ∃ q' k' c', e = .returned (.slice q' k' c') ∧ Own w' w.heap.size (.slice q' k' c') ([7] ++ numI x ++ lstB txtB L) ∧ Bw w.heap.size w w' := by
  have a0 := assert_no (t := 70) (x := 35) (v := .agg #[.int .i64 x, .slice qa m ca]) (by simp) Try.underlying61 Try.zeroValue61
  have a1 := assert_no (t := 70) (x := 35) (v := .agg #[.int .i64 x, .slice qa m ca]) (by simp) Try.underlying63 Try.zeroValue63
  have a2 := assert_no (t := 70) (x := 35) (v := .agg #[.int .i64 x, .slice qa m ca]) (by simp) Try.underlying57 Try.zeroValue57
  have a3 := assert_no (t := 70) (x := 35) (v := .agg #[.int .i64 x, .slice qa m ca]) (by simp) Try.underlying64 Try.zeroValue64
  have a4 := assert_no (t := 70) (x := 35) (v := .agg #[.int .i64 x, .slice qa m ca]) (by simp) Try.underlying66 Try.zeroValue66
  have a5 := assert_no (t := 70) (x := 35) (v := .agg #[.int .i64 x, .slice qa m ca]) (by simp) Try.underlying68 Try.zeroValue68
  have a6 := assert_yes (x := 35) (v := .agg #[.int .i64 x, .slice qa m ca]) Try.underlying70
  have HK : Hid (Calls Try.prog 103 #[.agg #[.int .i64 x, .slice qa m ca]] w fun e w' => e = .returned (.int .i64 7) ∧ Hid (Below w.heap.size w w')) := kind7 x qa m ca w
  have HH : Hid (L.length = m ∧ m ≤ 1000 ∧ (∀ W, Bw w.heap.size w W → LiesV W qa (textsV L)) ∧ (∀ x ∈ L, x.size ≤ 35184372088832) ∧ 100 + (L.flatMap txtB).length ≤ 35184372088832) := ⟨hm, h1, hL, hs, hl⟩
  clear hm h1 hL hs hl
  go_enter Try.func22, Try.ntmps22
  go_upto_region 27 with (go_at_call 103; refine HK.out.mono ?_; rintro e w1 ⟨rfl, b1⟩)
  have G0 : Hid (Wg w.heap.size w ((w1.alloc (.cells #[.int .u8 7] 5)).alloc (.cells #[.int .i64 x, .slice qa m ca] 70)) (w1.heap.size + 1) (.cells #[.int .i64 x, .slice qa m ca] 70) (.slice (some ⟨w1.heap.size, 0, none⟩) 1 1) [7]) := wg_start b1.out 7 _
  generalize ((w1.alloc (.cells #[.int .u8 7] 5)).alloc (.cells #[.int .i64 x, .slice qa m ca] 70)) = W at *
  generalize w1.heap.size + 1 = bx at *
  have e00 : W.cell? ⟨bx, 0, none⟩ = some (.int .i64 x) := Lib.cell_of_heap G0.out.x 0
  have H0 : Hid (Calls Try.prog 48 #[.slice (some ⟨w1.heap.size, 0, none⟩) 1 1, .int .i64 x] W fun e w' => ∃ q' k' c', e = .returned (.slice q' k' c') ∧ Hid (Wg w.heap.size w w' bx (.cells #[.int .i64 x, .slice qa m ca] 70) (.slice q' k' c') ([7] ++ numI x))) := wg_num G0.out (Nat.le_refl _) (fun cs h => by cases h) x hx (by simp)
  go_upto_region 28 with (go_at_call 48; refine H0.out.mono ?_; rintro e y0 ⟨q0, k0, c0, rfl, K0⟩)
  clear H0 e00
  have e11 : y0.cell? ⟨bx, 1, none⟩ = some (.slice qa m ca) := Lib.cell_of_heap K0.out.x 1
  have H1 : Hid (Calls Try.prog 51 #[.slice q0 k0 c0, .slice qa m ca, .func (.func 47) #[] #[]] y0 fun e w' => ∃ q' k' c', e = .returned (.slice q' k' c') ∧ Hid (Own w' w.heap.size (.slice q' k' c') ([7] ++ numI x ++ lstB txtB L) ∧ Bw w.heap.size w w')) := by
    have h9 := (own_parts K0.out.o).2.2
    have hk : k0 ≤ 20 := by
      have := num_length x.toNat
      simp only [numI, List.length_append, List.length_cons, List.length_nil] at h9
      omega
    refine (addTexts w.heap.size k0 q0 c0 _ L qa m ca y0 HH.out.1 HH.out.2.1 (fun W' b => HH.out.2.2.1 W' (K0.out.b.trans b)) HH.out.2.2.2.1 K0.out.o K0.out.b.b.size (by have := HH.out.2.2.2.2; omega)).mono ?_
    rintro e w' ⟨q', k', c', rfl, o, b⟩
    refine ⟨q', k', c', rfl, ?_, K0.out.b.trans b⟩
    unfold lstB
    rw [HH.out.1, ← List.append_assoc]
    exact o
  go_wp2_with (go_at_call 51; refine H1.out.mono ?_; rintro e y1 ⟨q1, k1, c1, rfl, K1⟩)
  go_ret
  exact ⟨q1, k1, c1, rfl, K1.out.1, K1.out.2⟩
set_option maxHeartbeats 400000 in
theorem kind5 (id pr rt st at' sr : Int) (tn : ByteArray) (pa ta na da : Option Addr) (pn pc tk tc nn nc dn dc : Nat) (w : World) : Calls Try.prog 101 #[.agg #[.int .i64 id, .string tn, .int .i64 pr, .int .i64 rt, .slice pa pn pc, .slice ta tk tc, .int .i64 st, .int .i64 at', .slice na nn nc, .int .i64 sr, .slice da dn dc]] w fun e w' => e = .returned (.int .i64 5) ∧ Hid (Below w.heap.size w w') := by
  go_enter Try.func101, Try.ntmps101
  go_wp2_with fail
  go_ret
  exact ⟨rfl, (Below.refl _ w).alloc (Nat.le_refl _) _⟩
set_option maxHeartbeats 2000000 in
set_option maxRecDepth 100000 in
theorem recB5 (id pr rt st at' sr : Int) (tn : ByteArray) (pa ta na da : Option Addr) (pn pc tk tc nn nc dn dc : Nat) (A : List Int) (T : List V4) (w : World)
    (h1 : 0 ≤ id ∧ id < 9223372036854775808) (h2 : 0 ≤ pr ∧ pr < 9223372036854775808) (h3 : 0 ≤ rt ∧ rt < 9223372036854775808) (hA : A.length = pn) (hT : T.length = tk) (hp : pn ≤ 1000) (ht : tk ≤ 1000)
    (lA : ∀ W, Below w.heap.size w W → LiesV W pa (intsV A)) (lT : ∀ W, Below w.heap.size w W → LiesV W ta (flat T)) (xA : ∀ x ∈ A, 0 ≤ x ∧ x < 9223372036854775808) (xT : ∀ x ∈ T, x.pos) (hl : 200 + (jobB id tn pr rt A T).length ≤ 35184372088832) :
    Calls Try.prog 22 #[.iface 66 (.agg #[.int .i64 id, .string tn, .int .i64 pr, .int .i64 rt, .slice pa pn pc, .slice ta tk tc, .int .i64 st, .int .i64 at', .slice na nn nc, .int .i64 sr, .slice da dn dc])] w fun e w' => ∃ q' k' c', e = .returned (.slice q' k' c') ∧ Own w' w.heap.size (.slice q' k' c') ([5] ++ jobB id tn pr rt A T) ∧ Bw w.heap.size w w' := by
  have a0 := assert_no (t := 66) (x := 35) (v := .agg #[.int .i64 id, .string tn, .int .i64 pr, .int .i64 rt, .slice pa pn pc, .slice ta tk tc, .int .i64 st, .int .i64 at', .slice na nn nc, .int .i64 sr, .slice da dn dc]) (by simp) Try.underlying61 Try.zeroValue61
  have a1 := assert_no (t := 66) (x := 35) (v := .agg #[.int .i64 id, .string tn, .int .i64 pr, .int .i64 rt, .slice pa pn pc, .slice ta tk tc, .int .i64 st, .int .i64 at', .slice na nn nc, .int .i64 sr, .slice da dn dc]) (by simp) Try.underlying63 Try.zeroValue63
  have a2 := assert_no (t := 66) (x := 35) (v := .agg #[.int .i64 id, .string tn, .int .i64 pr, .int .i64 rt, .slice pa pn pc, .slice ta tk tc, .int .i64 st, .int .i64 at', .slice na nn nc, .int .i64 sr, .slice da dn dc]) (by simp) Try.underlying57 Try.zeroValue57
  have a3 := assert_no (t := 66) (x := 35) (v := .agg #[.int .i64 id, .string tn, .int .i64 pr, .int .i64 rt, .slice pa pn pc, .slice ta tk tc, .int .i64 st, .int .i64 at', .slice na nn nc, .int .i64 sr, .slice da dn dc]) (by simp) Try.underlying64 Try.zeroValue64
  have a4 := assert_yes (x := 35) (v := .agg #[.int .i64 id, .string tn, .int .i64 pr, .int .i64 rt, .slice pa pn pc, .slice ta tk tc, .int .i64 st, .int .i64 at', .slice na nn nc, .int .i64 sr, .slice da dn dc]) Try.underlying66
  have HK : Hid (Calls Try.prog 101 #[.agg #[.int .i64 id, .string tn, .int .i64 pr, .int .i64 rt, .slice pa pn pc, .slice ta tk tc, .int .i64 st, .int .i64 at', .slice na nn nc, .int .i64 sr, .slice da dn dc]] w fun e w' => e = .returned (.int .i64 5) ∧ Hid (Below w.heap.size w w')) := kind5 id pr rt st at' sr tn pa ta na da pn pc tk tc nn nc dn dc w
  have HJ : Hid (∀ (W : World) (q : Option Addr) (k c : Nat), Own W w.heap.size (.slice q k c) [5] → Bw w.heap.size w W → Calls Try.prog 50 #[.slice q k c, .agg #[.int .i64 id, .string tn, .int .i64 pr, .int .i64 rt, .slice pa pn pc, .slice ta tk tc, .int .i64 st, .int .i64 at', .slice na nn nc, .int .i64 sr, .slice da dn dc]] W fun e w' => ∃ q' k' c', e = .returned (.slice q' k' c') ∧ Hid (Own w' w.heap.size (.slice q' k' c') ([5] ++ jobB id tn pr rt A T) ∧ Bw w.heap.size w w')) := fun W q k c ho hb => by
    have h9 := (own_parts ho).2.2
    have hk : k = 1 := by simpa using h9.symm
    refine (addJob_at w.heap.size k q c [5] id pr rt st at' sr tn pa ta na da pn pc tk tc nn nc dn dc A T W h1 h2 h3 hA hT hp ht (fun W' b => lA W' (hb.b.trans b)) (fun W' b => lT W' (hb.b.trans b)) xA xT ho hb.b.size (by omega)).mono ?_
    rintro e w' ⟨q', k', c', rfl, o, b⟩
    exact ⟨q', k', c', rfl, o, hb.trans b⟩
  clear h1 h2 h3 hA hT hp ht lA lT xA xT hl
  go_enter Try.func22, Try.ntmps22
  go_upto_region 21 with (go_at_call 101; refine HK.out.mono ?_; rintro e w1 ⟨rfl, b1⟩)
  have G0 : Hid (Wg w.heap.size w ((w1.alloc (.cells #[.int .u8 5] 5)).alloc (.cells #[.int .i64 id, .string tn, .int .i64 pr, .int .i64 rt, .slice pa pn pc, .slice ta tk tc, .int .i64 st, .int .i64 at', .slice na nn nc, .int .i64 sr, .slice da dn dc] 66)) (w1.heap.size + 1) (.cells #[.int .i64 id, .string tn, .int .i64 pr, .int .i64 rt, .slice pa pn pc, .slice ta tk tc, .int .i64 st, .int .i64 at', .slice na nn nc, .int .i64 sr, .slice da dn dc] 66) (.slice (some ⟨w1.heap.size, 0, none⟩) 1 1) [5]) := wg_start b1.out 5 _
  generalize ((w1.alloc (.cells #[.int .u8 5] 5)).alloc (.cells #[.int .i64 id, .string tn, .int .i64 pr, .int .i64 rt, .slice pa pn pc, .slice ta tk tc, .int .i64 st, .int .i64 at', .slice na nn nc, .int .i64 sr, .slice da dn dc] 66)) = W at *
  generalize w1.heap.size + 1 = bx at *
  have e00 : W.cell? ⟨bx, 0, none⟩ = some (.int .i64 id) := Lib.cell_of_heap G0.out.x 0
  have e01 : W.cell? ⟨bx, 1, none⟩ = some (.string tn) := Lib.cell_of_heap G0.out.x 1
  have e02 : W.cell? ⟨bx, 2, none⟩ = some (.int .i64 pr) := Lib.cell_of_heap G0.out.x 2
  have e03 : W.cell? ⟨bx, 3, none⟩ = some (.int .i64 rt) := Lib.cell_of_heap G0.out.x 3
  have e04 : W.cell? ⟨bx, 4, none⟩ = some (.slice pa pn pc) := Lib.cell_of_heap G0.out.x 4
  have e05 : W.cell? ⟨bx, 5, none⟩ = some (.slice ta tk tc) := Lib.cell_of_heap G0.out.x 5
  have e06 : W.cell? ⟨bx, 6, none⟩ = some (.int .i64 st) := Lib.cell_of_heap G0.out.x 6
  have e07 : W.cell? ⟨bx, 7, none⟩ = some (.int .i64 at') := Lib.cell_of_heap G0.out.x 7
  have e08 : W.cell? ⟨bx, 8, none⟩ = some (.slice na nn nc) := Lib.cell_of_heap G0.out.x 8
  have e09 : W.cell? ⟨bx, 9, none⟩ = some (.int .i64 sr) := Lib.cell_of_heap G0.out.x 9
  have e010 : W.cell? ⟨bx, 10, none⟩ = some (.slice da dn dc) := Lib.cell_of_heap G0.out.x 10
  have H0 := HJ.out W (some ⟨w1.heap.size, 0, none⟩) 1 1 G0.out.o G0.out.b
  have H0' : Hid (Calls Try.prog 50 #[.slice (some ⟨w1.heap.size, 0, none⟩) 1 1, .agg #[.int .i64 id, .string tn, .int .i64 pr, .int .i64 rt, .slice pa pn pc, .slice ta tk tc, .int .i64 st, .int .i64 at', .slice na nn nc, .int .i64 sr, .slice da dn dc]] W fun e w' => ∃ q' k' c', e = .returned (.slice q' k' c') ∧ Hid (Own w' w.heap.size (.slice q' k' c') ([5] ++ jobB id tn pr rt A T) ∧ Bw w.heap.size w w')) := H0
  clear H0 HJ
  go_wp2_with (go_at_call 50; refine H0'.out.mono ?_; rintro e y1 ⟨q1, k1, c1, rfl, K1⟩)
  go_ret
  exact ⟨q1, k1, c1, rfl, K1.out.1, K1.out.2⟩
end Go.Proofs.Ytnkkiepoljbhlaa
