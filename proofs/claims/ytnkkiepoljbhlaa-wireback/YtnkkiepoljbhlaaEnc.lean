/-
  Vectors as bytes: addVector, and the reference's vector.
-/
import Derived.Test.YtnkkiepoljbhlaaEnb
import Derived.Test.YtnkkiepoljbhlaaFma
namespace Go.Proofs.Ytnkkiepoljbhlaa
open Go.RowKit

/-- numbers' bytes, one behind another -/
def nums (xs : List Nat) : List UInt8 := xs.flatMap num
theorem nums_take {xs : List Nat} {k x : Nat} (h : xs[k]? = some x) : nums (xs.take (k + 1)) = nums (xs.take k) ++ num x := by
  unfold nums
  rw [List.take_add_one, h]
  simp
theorem nums_length : ∀ xs : List Nat, (nums xs).length ≤ 10 * xs.length
  | [] => Nat.le_refl _
  | x :: r => by
    have h1 := nums_length r
    have h2 := num_length x
    unfold nums at *
    rw [List.flatMap_cons, List.length_append, List.length_cons]
    omega
theorem four_at (a b c d k : Nat) (hk : k < 4) : ∃ x, [a, b, c, d][k]? = some x ∧ (#[.int .i64 a, .int .i64 b, .int .i64 c, .int .i64 d] : Array Value)[k]? = some (.int .i64 x) := by
  match k, hk with
  | 0, _ => exact ⟨a, rfl, rfl⟩
  | 1, _ => exact ⟨b, rfl, rfl⟩
  | 2, _ => exact ⟨c, rfl, rfl⟩
  | 3, _ => exact ⟨d, rfl, rfl⟩
set_option maxHeartbeats 2000000 in
set_option maxRecDepth 100000 in
theorem refVec (B n : Nat) (q : Option Addr) (cp : Nat) (l : List UInt8) (a b c d : Nat) (w : World) (ha : a < 9223372036854775808) (hb : b < 9223372036854775808) (hc : c < 9223372036854775808) (hd : d < 9223372036854775808) (hown : Own w B (.slice q n cp) l) (hB : B ≤ w.heap.size) (hl : n ≤ 35184372088832) :
    Calls Try.prog 25 #[.slice q n cp, .agg #[.int .i64 a, .int .i64 b, .int .i64 c, .int .i64 d]] w fun e w' => ∃ q' k' c', e = .returned (.slice q' k' c') ∧ Own w' B (.slice q' k' c') (l ++ nums [a, b, c, d]) ∧ Bw B w w' := by
  have HX : Hid (∀ x ∈ [a, b, c, d], x < 9223372036854775808) := fun x h => by
    simp at h
    omega
  have HO : Hid (Own (w.alloc (.cells #[.int .i64 a, .int .i64 b, .int .i64 c, .int .i64 d] 23)) B (.slice q n cp) l) := hown.keep ((Below.refl _ w).alloc (Nat.le_refl _) _)
  have HW : Hid (Bw B w (w.alloc (.cells #[.int .i64 a, .int .i64 b, .int .i64 c, .int .i64 d] 23))) := (Bw.refl B w).alloc hB _
  have HP : Hid ((w.alloc (.cells #[.int .i64 a, .int .i64 b, .int .i64 c, .int .i64 d] 23)).heap[w.heap.size]? = some (.cells #[.int .i64 a, .int .i64 b, .int .i64 c, .int .i64 d] 23)) := new0
  have HL : Hid (l.length = n) := (own_parts hown).2.2
  have HN : Hid (n ≤ 35184372088832 ∧ B ≤ w.heap.size) := ⟨hl, hB⟩
  clear hown hB hl ha hb hc hd
  go_enter Try.func25, Try.ntmps25
  go_upto_region 1 with fail
  generalize w.alloc (.cells #[.int .i64 a, .int .i64 b, .int .i64 c, .int .i64 d] 23) = W at *
  go_wp2_with fail
  go_loopw [0, 5] (fun bv iv wr => ∃ (k j : Nat) (q' : Option Addr) (c' : Nat), iv = .int .i64 k ∧ bv = .slice q' j c' ∧ Hid (k ≤ 4 ∧ Own wr B (.slice q' j c') (l ++ nums ([a, b, c, d].take k)) ∧ Bw B w wr ∧ wr.heap[w.heap.size]? = some (.cells #[.int .i64 a, .int .i64 b, .int .i64 c, .int .i64 d] 23))) (fun _ iv _ => 4 - (intOf iv).toNat)
  case atStart => exact ⟨0, n, q, cp, rfl, rfl, Nat.zero_le _, by simpa [nums] using HO.out, HW.out, HP.out⟩
  case round =>
    clear HO HW HP
    obtain ⟨k, j, q', c', rfl, rfl, HK⟩ := hrel
    by_cases hk : k < 4
    · have hk' : (k : Int) < 4 := by omega
      obtain ⟨x, hx, hc⟩ := four_at a b c d k hk
      have z0 : wr.cell? ⟨w.heap.size, k, none⟩ = some (.int .i64 x) := (Lib.cell_of_heap HK.out.2.2.2 k).trans hc
      have H24 : Hid (Calls Try.prog 24 #[.slice q' j c', .int .i64 x] wr fun e w' => ∃ q2 k2 c2, e = .returned (.slice q2 k2 c2) ∧ Hid (k + 1 ≤ 4 ∧ Own w' B (.slice q2 k2 c2) (l ++ nums ([a, b, c, d].take (k + 1))) ∧ Bw B w w' ∧ w'.heap[w.heap.size]? = some (.cells #[.int .i64 a, .int .i64 b, .int .i64 c, .int .i64 d] 23))) := by
        have h1 := (own_parts HK.out.2.1).2.2
        have h2 := nums_length ([a, b, c, d].take k)
        have h3 := HN.out
        have h4 := HL.out
        rw [List.length_append] at h1
        rw [List.length_take] at h2
        simp only [List.length_cons, List.length_nil] at h2
        refine (refNumber_anyN B x j q' c' _ wr (HX.out x (List.mem_of_getElem? hx)) HK.out.2.1 (Nat.le_trans h3.2 HK.out.2.2.1.size) (by omega)).mono ?_
        rintro e w' ⟨q2, k2, c2, rfl, o2, b2⟩
        refine ⟨q2, k2, c2, rfl, hk, ?_, HK.out.2.2.1.trans b2, b2.n _ _ HK.out.2.2.2 (fun cs h => by cases h)⟩
        rw [nums_take hx, ← List.append_assoc]
        exact o2
      have Hk : Hid (k < 4) := hk
      clear hx hc HK hk
      go_wp2_with (go_at_call 24; refine H24.out.mono ?_; rintro e w2 ⟨q2, k2, c2, rfl, h2⟩)
      have := Hk.out
      refine ⟨⟨k + 1, k2, q2, c2, by simp, rfl, h2.out⟩, ?_⟩
      simp [intOf]
      omega
    · have hk' : ¬ (k : Int) < 4 := by omega
      have hk2 : decide ((k : Int) < 4) = false := decide_eq_false hk'
      have HF : Hid (Own wr B (.slice q' j c') (l ++ nums [a, b, c, d]) ∧ Bw B w wr) := by
        have e : k = 4 := by have := HK.out.1; omega
        have h := HK.out
        rw [e] at h
        exact ⟨h.2.1, h.2.2.1⟩
      clear HK hk
      go_wp2_with fail
      go_ret
      exact ⟨q', j, c', rfl, HF.out.1, HF.out.2⟩
theorem four_ix (a b c d k : Nat) (hk : k < 4) : ∃ x : Nat, [a, b, c, d][k]? = some x ∧ ∀ w, (Instr.index 23 (.agg #[.int .i64 a, .int .i64 b, .int .i64 c, .int .i64 d]) (.int .i64 (k : Int))).run Try.prog w = .ok (.int .i64 x) w := by
  match k, hk with
  | 0, _ => exact ⟨a, rfl, ix0 _ _ _ _⟩
  | 1, _ => exact ⟨b, rfl, ix1 _ _ _ _⟩
  | 2, _ => exact ⟨c, rfl, ix2 _ _ _ _⟩
  | 3, _ => exact ⟨d, rfl, ix3 _ _ _ _⟩
set_option maxHeartbeats 2000000 in
set_option maxRecDepth 100000 in
theorem addVec (B n : Nat) (q : Option Addr) (cp : Nat) (l : List UInt8) (a b c d : Nat) (w : World) (ha : a < 9223372036854775808) (hb : b < 9223372036854775808) (hc : c < 9223372036854775808) (hd : d < 9223372036854775808) (hown : Own w B (.slice q n cp) l) (hB : B ≤ w.heap.size) (hl : n ≤ 35184372088832) :
    Calls Try.prog 49 #[.slice q n cp, .agg #[.int .i64 a, .int .i64 b, .int .i64 c, .int .i64 d]] w fun e w' => ∃ q' k' c', e = .returned (.slice q' k' c') ∧ Own w' B (.slice q' k' c') (l ++ nums [a, b, c, d]) ∧ Bw B w w' := by
  have HX : Hid (∀ x ∈ [a, b, c, d], x < 9223372036854775808) := fun x h => by
    simp at h
    omega
  have HO : Hid (Own (w.alloc (.cells #[.int .i64 a, .int .i64 b, .int .i64 c, .int .i64 d] 23)) B (.slice q n cp) l) := hown.keep ((Below.refl _ w).alloc (Nat.le_refl _) _)
  have HW : Hid (Bw B w (w.alloc (.cells #[.int .i64 a, .int .i64 b, .int .i64 c, .int .i64 d] 23))) := (Bw.refl B w).alloc hB _
  have HP : Hid ((w.alloc (.cells #[.int .i64 a, .int .i64 b, .int .i64 c, .int .i64 d] 23)).heap[w.heap.size]? = some (.cells #[.int .i64 a, .int .i64 b, .int .i64 c, .int .i64 d] 23)) := new0
  have HL : Hid (l.length = n) := (own_parts hown).2.2
  have HN : Hid (n ≤ 35184372088832 ∧ B ≤ w.heap.size) := ⟨hl, hB⟩
  clear hown hB hl ha hb hc hd
  go_enter Try.func49, Try.ntmps49
  go_upto_region 1 with fail
  generalize w.alloc (.cells #[.int .i64 a, .int .i64 b, .int .i64 c, .int .i64 d] 23) = W at *
  have y0 : W.cell? ⟨w.heap.size, 0, none⟩ = some (.int .i64 a) := Lib.cell_of_heap HP.out 0
  have y1 : W.cell? ⟨w.heap.size, 1, none⟩ = some (.int .i64 b) := Lib.cell_of_heap HP.out 1
  have y2 : W.cell? ⟨w.heap.size, 2, none⟩ = some (.int .i64 c) := Lib.cell_of_heap HP.out 2
  have y3 : W.cell? ⟨w.heap.size, 3, none⟩ = some (.int .i64 d) := Lib.cell_of_heap HP.out 3
  go_wp2_with fail
  clear y0 y1 y2 y3
  go_loopw [0, 8] (fun bv iv wr => ∃ (k j : Nat) (q' : Option Addr) (c' : Nat), iv = .int .i64 k ∧ bv = .slice q' j c' ∧ Hid (k ≤ 4 ∧ Own wr B (.slice q' j c') (l ++ nums ([a, b, c, d].take k)) ∧ Bw B w wr ∧ wr.heap[w.heap.size]? = some (.cells #[.int .i64 a, .int .i64 b, .int .i64 c, .int .i64 d] 23))) (fun _ iv _ => 4 - (intOf iv).toNat)
  case atStart => exact ⟨0, n, q, cp, rfl, rfl, Nat.zero_le _, by simpa [nums] using HO.out, HW.out, HP.out⟩
  case round =>
    clear HO HW HP
    obtain ⟨k, j, q', c', rfl, rfl, HK⟩ := hrel
    by_cases hk : k < 4
    · have hk' : (k : Int) < 4 := by omega
      obtain ⟨x, hx, hc⟩ := four_ix a b c d k hk
      have H48 : Hid (Calls Try.prog 48 #[.slice q' j c', .int .i64 x] wr fun e w' => ∃ q2 k2 c2, e = .returned (.slice q2 k2 c2) ∧ Hid (k + 1 ≤ 4 ∧ Own w' B (.slice q2 k2 c2) (l ++ nums ([a, b, c, d].take (k + 1))) ∧ Bw B w w' ∧ w'.heap[w.heap.size]? = some (.cells #[.int .i64 a, .int .i64 b, .int .i64 c, .int .i64 d] 23))) := by
        have h1 := (own_parts HK.out.2.1).2.2
        have h2 := nums_length ([a, b, c, d].take k)
        have h3 := HN.out
        have h4 := HL.out
        rw [List.length_append] at h1
        rw [List.length_take] at h2
        simp only [List.length_cons, List.length_nil] at h2
        refine (addNumber_anyN B x j q' c' _ wr (HX.out x (List.mem_of_getElem? hx)) HK.out.2.1 (Nat.le_trans h3.2 HK.out.2.2.1.size) (by omega)).mono ?_
        rintro e w' ⟨q2, k2, c2, rfl, o2, b2⟩
        refine ⟨q2, k2, c2, rfl, hk, ?_, HK.out.2.2.1.trans b2, b2.n _ _ HK.out.2.2.2 (fun cs h => by cases h)⟩
        rw [nums_take hx, ← List.append_assoc]
        exact o2
      have Hk : Hid (k < 4) := hk
      clear hx HK hk
      go_wp2_with (go_at_call 48; refine H48.out.mono ?_; rintro e w2 ⟨q2, k2, c2, rfl, h2⟩)
      have := Hk.out
      refine ⟨⟨k + 1, k2, q2, c2, by simp, rfl, h2.out⟩, ?_⟩
      simp [intOf]
      omega
    · have hk' : ¬ (k : Int) < 4 := by omega
      have hk2 : decide ((k : Int) < 4) = false := decide_eq_false hk'
      have HF : Hid (Own wr B (.slice q' j c') (l ++ nums [a, b, c, d]) ∧ Bw B w wr) := by
        have e : k = 4 := by have := HK.out.1; omega
        have h := HK.out
        rw [e] at h
        exact ⟨h.2.1, h.2.2.1⟩
      clear HK hk
      go_wp2_with fail
      go_ret
      exact ⟨q', j, c', rfl, HF.out.1, HF.out.2⟩
end Go.Proofs.Ytnkkiepoljbhlaa
