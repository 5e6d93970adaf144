/-
  The walk of WireKeeps.
-/
import Derived.Test.YtefidmjekjhdaaaLawF
namespace Go.Proofs.Ytefidmjekjhdaaa
open Go.RowKit

/-- one byte of an owned row set -/
theorem Own.set {w : World} {B g n c : Nat} {l : List UInt8} (h : Own w B (.slice (some ⟨g, 0, none⟩) n c) l) (k : Nat) (y : UInt8) : Own (w.setCell ⟨g, k, none⟩ (.int .u8 y.toNat)) B (.slice (some ⟨g, 0, none⟩) n c) (l.set k y) := by
  refine ⟨by rw [bv_length, Nat.mul_one], ?_⟩
  rcases h.2 with ⟨e, _⟩ | ⟨g', cap, cur, e, hb, hg, hn, hm, hs, ht⟩
  · cases e
  · cases e
    refine .inr ⟨g, c, cur.setIfInBounds k (.int .u8 y.toNat), by rw [List.length_set], hb, heap_setCell_same w g k cur 5 _ hg, by rw [List.length_set]; exact hn, hm, by rw [Array.size_setIfInBounds]; exact hs, ?_⟩
    rw [List.length_set, Array.toList_setIfInBounds, Nat.mul_one, List.take_set]
    rw [Nat.mul_one] at ht
    rw [ht]
    unfold bv
    rw [List.map_set]
theorem own_cell {w : World} {B g n c : Nat} {l : List UInt8} (h : Own w B (.slice (some ⟨g, 0, none⟩) n c) l) {k : Nat} {x : UInt8} (hx : l[k]? = some x) : w.cell? ⟨g, k, none⟩ = some (.int .u8 x.toNat) ∧ w.frozen? ⟨g, k, none⟩ = false := by
  rcases h.2 with ⟨e, _⟩ | ⟨g', cap, cur, e, hb, hg, hn, hm, hs, ht⟩
  · cases e
  · cases e
    have hc := World.ownsRow.cells h (g := g) rfl k _ (bv_get hx)
    rw [Addr.add_lit, Nat.zero_add] at hc
    exact ⟨hc, Lib.frozen_of_heap hg k⟩
theorem own_pos {w : World} {B n c : Nat} {q : Option Addr} {l : List UInt8} (h : Own w B (.slice q n c) l) (hn : 0 < n) : ∃ g, q = some ⟨g, 0, none⟩ ∧ B ≤ g := by
  have hl := (own_parts h).2.2
  rcases h.2 with ⟨e, _⟩ | ⟨g', cap, cur, e, hb, _⟩
  · cases e; omega
  · cases e; exact ⟨g', rfl, hb⟩

set_option maxHeartbeats 400000 in
theorem keeps_long (a : Option Addr) (c n : Nat) (w : World) (hn : 4096 < (n : Int)) :
    Calls Try.prog 5 #[.slice a n c] w fun e w' => e = .returned (.bool true) ∧ Below w.heap.size w w' := by
  go_enter Try.func5, Try.ntmps5
  go_upto_region 2 with (go_at_call 6; refine (awake_any _).mono ?_; rintro e w1 ⟨rfl, b1⟩)
  go_wp2_with (go_at_call 6; refine (awake_any _).mono ?_; rintro e w2 ⟨rfl, b2⟩)
  go_ret
  exact ⟨rfl, below_from b1 b2 b1.size⟩

theorem own_cap {w : World} {B k : Nat} {q : Option Addr} {c : Nat} {l : List UInt8} (h : Own w B (.slice q k c) l) : l.length ≤ c := by
  rcases h.2 with ⟨e, h0⟩ | ⟨g', cap, cur, e, hb, hg, hn, _⟩
  · cases e; omega
  · cases e; exact hn

theorem open_own (F l r : List UInt8) (q : Option Addr) (k c : Nat) (w : World) (B : Nat) (h : Own w B (.slice q k c) F) (hF : F.length ≤ 140737488355328) (ho : Crc.opened F = some (l, r)) :
    Calls Try.prog 9 #[.slice q k c] w fun e w' => ∃ q1 k1 c1 q2 k2 c2, e = .returned (.tuple #[.slice q1 k1 c1, .slice q2 k2 c2, .int .i64 0]) ∧ Own w' w.heap.size (.slice q1 k1 c1) l ∧ Own w' w.heap.size (.slice q2 k2 c2) r ∧ Below w.heap.size w w' := by
  have hcap := own_cap h
  obtain ⟨h1, h2, h3⟩ := own_parts h
  subst h3
  refine (open_any F q c w h1 h2 hcap hF).mono ?_
  rintro e w' ⟨ha, b⟩
  unfold openAns at ha
  rw [ho] at ha
  obtain ⟨q1, c1, q2, c2, rfl, o1, o2, _⟩ := ha
  exact ⟨q1, _, c1, q2, _, c2, rfl, o1, o2, b⟩

theorem open_frame (l : List UInt8) (q : Option Addr) (k c : Nat) (w : World) (hl : l.length ≤ 4096) (B : Nat) (h : Own w B (.slice q k c) (Crc.frame l)) :
    Calls Try.prog 9 #[.slice q k c] w fun e w' => ∃ q1 k1 c1 q2 k2 c2, e = .returned (.tuple #[.slice q1 k1 c1, .slice q2 k2 c2, .int .i64 0]) ∧ Own w' w.heap.size (.slice q1 k1 c1) l ∧ Below w.heap.size w w' := by
  have ho : Crc.opened (Crc.frame l) = some (l, []) := by have := Crc.opened_frame l [] hl; rwa [List.append_nil] at this
  have hF : (Crc.frame l).length ≤ 140737488355328 := by rw [Crc.frame_length]; omega
  generalize Crc.frame l = F at *
  refine (open_own F l [] q k c w B h hF ho).mono ?_
  rintro e w' ⟨q1, k1, c1, q2, k2, c2, he, o1, _, b⟩
  exact ⟨q1, k1, c1, q2, k2, c2, he, o1, b⟩

theorem flip_byte (x : UInt8) : ∃ y : UInt8, (255 - (x.toNat : Int)) = (y.toNat : Int) := by
  have := x.toNat_lt
  refine ⟨UInt8.ofNat (255 - x.toNat), ?_⟩
  rw [UInt8.toNat_ofNat']
  omega

set_option maxHeartbeats 2000000 in
set_option maxRecDepth 100000 in
theorem keeps_at (l : List UInt8) (a : Option Addr) (c n : Nat) (w : World) (hL : Hid (l.length = n)) (hn : n ≤ 4096) (ha : Hid (Lies w a l)) (hc : Hid (a = none → c = 0)) :
    Calls Try.prog 5 #[.slice a n c] w fun e w' => e = .returned (.bool true) ∧ Below w.heap.size w w' := by
  have HH : Hid (∀ W, Below w.heap.size w W → Has W a n l) := fun W b => ⟨ha.out.keep b (Nat.le_refl _), hL.out⟩
  have H7 : Hid (∀ (q : Option Addr) (k c : Nat) (W : World), Own W 0 (.slice q k c) l → Calls Try.prog 7 #[.slice q k c] W fun e w' => ∃ q' k' c', e = .returned (.tuple #[.slice q' k' c', .int .i64 0]) ∧ Own w' W.heap.size (.slice q' k' c') (Crc.frame l) ∧ Below W.heap.size W w') := fun q k c W h => by
    obtain ⟨h1, h2, h3⟩ := own_parts h
    subst h3
    refine (frame_any l q c W (by rw [hL.out]; omega) h1 h2).mono ?_
    rintro e w' ⟨q', c', he, h1, h2⟩
    exact ⟨q', _, c', he, h1, h2⟩
  have H9 : Hid (∀ (q : Option Addr) (k c : Nat) (W : World), Own W 0 (.slice q k c) (Crc.frame l) → Calls Try.prog 9 #[.slice q k c] W fun e w' => ∃ q1 k1 c1 q2 k2 c2, e = .returned (.tuple #[.slice q1 k1 c1, .slice q2 k2 c2, .int .i64 0]) ∧ Own w' W.heap.size (.slice q1 k1 c1) l ∧ Below W.heap.size W w') := fun q k c W h => open_frame l q k c W (by rw [hL.out]; omega) 0 h
  have HLL : Hid (l.length < 1152921504606846976) := by unfold Hid; rw [hL.out]; omega
  go_enter Try.func5, Try.ntmps5
  go_upto_region 4 with (go_at_call 6; refine (awake_any _).mono ?_; rintro e w1 ⟨rfl, b1⟩; have y1 : Hid (Below w.heap.size w w1) := b1; clear b1)
  go_upto_region 5 with (at_builtin; refine append_bytes rfl _ _ rfl w.heap.size (.slice none 0 0) [] l rfl (Own.nil _ _) a c n rfl hL.out hc.out (ha.out.keep y1.out (Nat.le_refl _)) (by rw [hL.out]; simp; omega) y1.out.size ?_; intro v2 w2 h2 b2)
  have h2' : Own w2 w.heap.size v2 l := h2
  obtain ⟨q2, c2, e2, -⟩ := h2'.shape
  rw [hL.out] at e2
  rw [e2] at h2' ⊢
  have o2 : Hid (Own w2 w.heap.size (.slice q2 n c2) l) := h2'
  have y2 : Hid (Below w.heap.size w w2) := y1.out.trans b2
  clear h2 h2' b2 y1 e2 v2
  go_upto_region 6 with (go_at_call 7; refine (H7.out _ _ _ _ (o2.out.low (Nat.zero_le _))).mono ?_; rintro e w3 ⟨q3, k3, c3, rfl, h3, b3⟩)
  have o3 : Hid (Own w3 w2.heap.size (.slice q3 k3 c3) (Crc.frame l)) := h3
  have p3 : Hid (Own w3 w.heap.size (.slice q2 n c2) l) := o2.out.keep b3
  have y3 : Hid (Below w.heap.size w w3) := below_from y2.out b3 y2.out.size
  clear h3 b3
  go_upto_region 8 with (go_at_call 11; refine (same_has l q2 a n n c2 c w3 ⟨(own_parts p3.out).1, hL.out⟩ (HH.out _ y3.out) HLL.out).mono ?_; rintro e w4 ⟨rfl, b4⟩)
  have o4 : Hid (Own w4 w2.heap.size (.slice q3 k3 c3) (Crc.frame l)) := o3.out.keep b4
  have p4 : Hid (Own w4 w.heap.size (.slice q2 n c2) l) := p3.out.keep b4
  have y4 : Hid (Below w.heap.size w w4) := below_from y3.out b4 y3.out.size
  clear b4 o3 p3 o2 y2 y3
  go_upto_region 9 with (go_at_call 9; refine (H9.out _ _ _ _ (o4.out.low (Nat.zero_le _))).mono ?_; rintro e w5 ⟨q5, k5, c5, q6, k6, c6, rfl, h5, b5⟩)
  have o5 : Hid (Own w5 w4.heap.size (.slice q5 k5 c5) l) := h5
  have B5 : Hid (Below w4.heap.size w4 w5) := b5
  have N5 : k5 = n := by have := (own_parts h5).2.2; have := hL.out; omega
  subst N5
  clear h5 b5
  go_wp2_with fail
  go_loopw [9] (fun i wr => ∃ (k : Nat) (m : List UInt8), i = .int .i64 k ∧ k ≤ k5 ∧ Own wr w4.heap.size (.slice q5 k5 c5) m ∧ Below w4.heap.size w4 wr) (fun i _ => k5 - (intOf i).toNat)
  case atStart => exact ⟨0, l, rfl, Nat.zero_le _, o5.out, B5.out⟩
  case round =>
    obtain ⟨k, m, rfl, hk, hm, hb⟩ := hrel
    have HB : Hid (Below w4.heap.size w4 wr) := hb
    have HM : Hid (Own wr w4.heap.size (.slice q5 k5 c5) m) := hm
    clear hb hm
    by_cases hlt : k < k5
    · obtain ⟨g, rfl, hg⟩ := own_pos HM.out (by omega)
      have HG : Hid (w4.heap.size ≤ g) := hg
      clear hg
      obtain ⟨x, hx⟩ : ∃ x, m[k]? = some x := ⟨m[k]'(by have := (own_parts HM.out).2.2; omega), List.getElem?_eq_getElem _⟩
      obtain ⟨h0, h1⟩ := own_cell HM.out hx
      obtain ⟨y, hy⟩ := flip_byte x
      have hbx := u8_bd x
      clear hx
      go_wp2_with fail
      refine ⟨⟨k + 1, m.set k y, by go_num, by omega, HM.out.set k y, HB.out.setCell HG.out _⟩, ?_⟩
      simp [intOf]; omega
    · have o6 : Hid (Own wr w2.heap.size (.slice q3 k3 c3) (Crc.frame l)) := o4.out.keep HB.out
      have p6 : Hid (Own wr w.heap.size (.slice q2 k5 c2) l) := p4.out.keep HB.out
      have y6 : Hid (Below w.heap.size w wr) := below_from y4.out HB.out y4.out.size
      clear o4 p4 y4 o5 B5 HM HB
      go_wp2_with fail
      refine (H9.out _ _ _ _ (o6.out.low (Nat.zero_le _))).mono ?_
      rintro e w7 ⟨q7, k7, c7, q8, k8, c8, rfl, h7, b7⟩
      have z7 : Hid (Has w7 q7 k7 l) := ⟨(own_parts h7).1, (own_parts h7).2.2⟩
      have p7 : Hid (Own w7 w.heap.size (.slice q2 k5 c2) l) := p6.out.keep b7
      have y7 : Hid (Below w.heap.size w w7) := below_from y6.out b7 y6.out.size
      clear h7 b7 o6 p6 y6
      go_wp2_with fail
      refine (same_has l q7 a k7 k5 c7 c w7 z7.out (HH.out _ y7.out) HLL.out).mono ?_
      rintro e w8 ⟨rfl, b8⟩
      have p8 : Hid (Own w8 w.heap.size (.slice q2 k5 c2) l) := p7.out.keep b8
      have y8 : Hid (Below w.heap.size w w8) := below_from y7.out b8 y7.out.size
      clear b8 p7 y7 z7
      go_wp2_with fail
      refine (same_has l q2 a k5 k5 c2 c w8 ⟨(own_parts p8.out).1, hL.out⟩ (HH.out _ y8.out) HLL.out).mono ?_
      rintro e w9 ⟨rfl, b9⟩
      go_wp2_with fail
      go_ret
      exact ⟨rfl, below_from y8.out b9 y8.out.size⟩

theorem law_keeps (l : List UInt8) (a : Option Addr) (c : Nat) (w : World) (ha : Lies w a l) (hc : a = none → c = 0) :
    Calls Try.prog 5 #[.slice a l.length c] w fun e w' => e = .returned (.bool true) ∧ Below w.heap.size w w' := by
  by_cases h : 4096 < (l.length : Int)
  · exact keeps_long a c l.length w h
  · exact keeps_at l a c l.length w rfl (by omega) ha hc

end Go.Proofs.Ytefidmjekjhdaaa
