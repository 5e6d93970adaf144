/-
  Records as bytes: what each step of writing one leaves; recordBytes of a node's beat and of its going (kinds 3, 4).
-/
import Derived.Test.YtnkkiepoljbhlaaEnf
import Derived.Test.YtnkkiepoljbhlaaFmn
namespace Go.Proofs.Ytnkkiepoljbhlaa
open Go.RowKit

section
variable {B bx : Nat} {w W : World} {box : Obj} {q : Option Addr} {k c : Nat} {l : List UInt8}
theorem wg_num (h : Wg B w W bx box (.slice q k c) l) (hB : B ≤ w.heap.size) (hne : ∀ cs, box ≠ Obj.cells cs 5 (0, 0)) (x : Int) (hx : 0 ≤ x ∧ x < 9223372036854775808) (hk : l.length ≤ 35184372088832) :
    Calls Try.prog 48 #[.slice q k c, .int .i64 x] W fun e w' => ∃ q' k' c', e = .returned (.slice q' k' c') ∧ Hid (Wg B w w' bx box (.slice q' k' c') (l ++ numI x)) := by
  have := (own_parts h.o).2.2
  refine (addNum1 B x k q c l W hx h.o (Nat.le_trans hB h.b.size) (by omega)).mono ?_
  rintro e w' ⟨q', k', c', rfl, o, b⟩
  exact ⟨q', k', c', rfl, h.next hne o b⟩
theorem wg_txt (h : Wg B w W bx box (.slice q k c) l) (hB : B ≤ w.heap.size) (hne : ∀ cs, box ≠ Obj.cells cs 5 (0, 0)) (s : ByteArray) (hs : s.size ≤ 35184372088832) (hk : l.length ≤ 35184372088832) :
    Calls Try.prog 47 #[.slice q k c, .string s] W fun e w' => ∃ q' k' c', e = .returned (.slice q' k' c') ∧ Hid (Wg B w w' bx box (.slice q' k' c') (l ++ txtB s)) := by
  have := (own_parts h.o).2.2
  refine (addTxt1 B k q c l s W h.o (Nat.le_trans hB h.b.size) (by omega) hs).mono ?_
  rintro e w' ⟨q', k', c', rfl, o, b⟩
  exact ⟨q', k', c', rfl, h.next hne o b⟩
theorem wg_vec (h : Wg B w W bx box (.slice q k c) l) (hB : B ≤ w.heap.size) (hne : ∀ cs, box ≠ Obj.cells cs 5 (0, 0)) (v : V4) (hv : v.pos) (hk : l.length ≤ 35184372088832) :
    Calls Try.prog 49 #[.slice q k c, .agg #[.int .i64 v.a, .int .i64 v.b, .int .i64 v.c, .int .i64 v.d]] W fun e w' => ∃ q' k' c', e = .returned (.slice q' k' c') ∧ Hid (Wg B w w' bx box (.slice q' k' c') (l ++ vecB v)) := by
  have := (own_parts h.o).2.2
  refine (addVec1 B k q c l v W hv h.o (Nat.le_trans hB h.b.size) (by omega)).mono ?_
  rintro e w' ⟨q', k', c', rfl, o, b⟩
  exact ⟨q', k', c', rfl, h.next hne o b⟩
end
/-- a record's row is begun with its kind, and its fields are boxed -/
theorem wg_start {w w1 : World} (b : Below w.heap.size w w1) (K : UInt8) (box : Obj) : Wg w.heap.size w ((w1.alloc (.cells #[.int .u8 K.toNat] 5)).alloc box) (w1.heap.size + 1) box (.slice (some ⟨w1.heap.size, 0, none⟩) 1 1) [K] := by
  have h1 : Own (w1.alloc (.cells #[.int .u8 K.toNat] 5)) w.heap.size (.slice (some ⟨w1.heap.size, 0, none⟩) 1 1) [K] := own_one b.size
  refine ⟨h1.keep ((Below.refl _ _).alloc (Nat.le_refl _) _), ?_, ?_⟩
  · refine Bw.of_below ?_ (Nat.le_refl _)
    refine (b.alloc b.size _).alloc ?_ _
    have := b.size
    simp
    omega
  · have h2 : (w1.alloc (.cells #[.int .u8 K.toNat] 5)).heap.size = w1.heap.size + 1 := by simp
    rw [← h2]
    exact new0
set_option maxHeartbeats 400000 in
theorem kind3 (nd : ByteArray) (w : World) : Calls Try.prog 96 #[.agg #[.string nd]] w fun e w' => e = .returned (.int .i64 3) ∧ Hid (Below w.heap.size w w') := by
  go_enter Try.func96, Try.ntmps96
  go_wp2_with fail
  go_ret
  exact ⟨rfl, (Below.refl _ w).alloc (Nat.le_refl _) _⟩
set_option maxHeartbeats 400000 in
theorem kind4 (nd : ByteArray) (w : World) : Calls Try.prog 100 #[.agg #[.string nd]] w fun e w' => e = .returned (.int .i64 4) ∧ Hid (Below w.heap.size w w') := by
  go_enter Try.func100, Try.ntmps100
  go_wp2_with fail
  go_ret
  exact ⟨rfl, (Below.refl _ w).alloc (Nat.le_refl _) _⟩
set_option maxHeartbeats 2000000 in
set_option maxRecDepth 100000 in
theorem recB3 (nd : ByteArray) (w : World) (hs : nd.size ≤ 35184372088832) :
    Calls Try.prog 22 #[.iface 57 (.agg #[.string nd])] w fun e w' => ∃ q' k' c', e = .returned (.slice q' k' c') ∧ Own w' w.heap.size (.slice q' k' c') ([3] ++ txtB nd) ∧ Bw w.heap.size w w' := by
  have a1 := assert_no (t := 57) (x := 35) (v := .agg #[.string nd]) (by simp) Try.underlying61 Try.zeroValue61
  have a2 := assert_no (t := 57) (x := 35) (v := .agg #[.string nd]) (by simp) Try.underlying63 Try.zeroValue63
  have a3 := assert_yes (x := 35) (v := .agg #[.string nd]) Try.underlying57
  have HK : Hid (Calls Try.prog 96 #[.agg #[.string nd]] w fun e w' => e = .returned (.int .i64 3) ∧ Hid (Below w.heap.size w w')) := kind3 nd w
  go_enter Try.func22, Try.ntmps22
  go_upto_region 15 with (go_at_call 96; refine HK.out.mono ?_; rintro e w1 ⟨rfl, b1⟩)
  have G0 : Hid (Wg w.heap.size w ((w1.alloc (.cells #[.int .u8 3] 5)).alloc (.cells #[.string nd] 57)) (w1.heap.size + 1) (.cells #[.string nd] 57) (.slice (some ⟨w1.heap.size, 0, none⟩) 1 1) [3]) := wg_start b1.out 3 _
  generalize ((w1.alloc (.cells #[.int .u8 3] 5)).alloc (.cells #[.string nd] 57)) = W at *
  have e0 : W.cell? ⟨w1.heap.size + 1, 0, none⟩ = some (.string nd) := Lib.cell_of_heap G0.out.x 0
  have H1 : Hid (Calls Try.prog 47 #[.slice (some ⟨w1.heap.size, 0, none⟩) 1 1, .string nd] W fun e w' => ∃ q' k' c', e = .returned (.slice q' k' c') ∧ Hid (Wg w.heap.size w w' (w1.heap.size + 1) (.cells #[.string nd] 57) (.slice q' k' c') ([3] ++ txtB nd))) := wg_txt G0.out (Nat.le_refl _) (fun cs h => by cases h) nd hs (by simp)
  go_wp2_with (go_at_call 47; refine H1.out.mono ?_; rintro e w2 ⟨q2, k2, c2, rfl, G1⟩)
  go_ret
  exact ⟨q2, k2, c2, rfl, G1.out.o, G1.out.b⟩
end Go.Proofs.Ytnkkiepoljbhlaa
