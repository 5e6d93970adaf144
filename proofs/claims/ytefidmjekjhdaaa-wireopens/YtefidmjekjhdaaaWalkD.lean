/-
  The contracts of Frame, the program's and the reference's, and of bytes.Clone.
-/
import Derived.Test.YtefidmjekjhdaaaWalkC
import Derived.Deep.CutBlock
import Derived.Deep.CutRange
import Derived.Deep.DeepCutAuto
namespace Go.Proofs.Ytefidmjekjhdaaa
open Go.RowKit

theorem addFour_nil (B n : Nat) (w : World) (hn : n < 4294967296) (hB : B ≤ w.heap.size) :
    Calls Try.prog 14 #[.slice none 0 0, .int .u32 n] w fun e w' => ∃ q' c', e = .returned (.slice q' 4 c') ∧ Own w' B (.slice q' 4 c') (Crc.fourB n) ∧ Below B w w' := addFour_any B n none 0 [] w hn (Own.nil w B) hB (by simp)
theorem addFour_two (B n m : Nat) (q : Option Addr) (c : Nat) (w : World) (hn : n < 4294967296) (hown : Own w B (.slice q 4 c) (Crc.fourB m)) (hB : B ≤ w.heap.size) :
    Calls Try.prog 14 #[.slice q 4 c, .int .u32 n] w fun e w' => ∃ q' c', e = .returned (.slice q' 8 c') ∧ Own w' B (.slice q' 8 c') (Crc.fourB m ++ Crc.fourB n) ∧ Below B w w' := addFour_any B n q c (Crc.fourB m) w hn hown hB (by rw [Crc.fourB_length]; omega)

theorem own_parts {w : World} {B k : Nat} {q : Option Addr} {c : Nat} {l : List UInt8} (h : Own w B (.slice q k c) l) : Lies w q l ∧ (q = none → c = 0) ∧ l.length = k := by
  obtain ⟨a, c', e, h1, h2, _⟩ := h.shape
  cases e
  exact ⟨h1, h2, rfl⟩

set_option maxHeartbeats 1000000 in
theorem frame_at (l : List UInt8) (a : Option Addr) (c n k : Nat) (w : World) (hn : Hid (l.length = n)) (hle : n ≤ 4096) (ha : Hid (Lies w a l)) (hc : Hid (a = none → c = 0)) (hk : Hid (Crc.crc (Crc.fourB n ++ l) = k)) :
    Calls Try.prog 7 #[.slice a n c] w fun e w' => ∃ v, e = .returned (.tuple #[v, .int .i64 0]) ∧ Own w' w.heap.size v (Crc.fourB n ++ Crc.fourB k ++ l) ∧ Below w.heap.size w w' := by
  have HK : Hid (k < 4294967296) := by rw [← hk.out]; exact Crc.crc_lt _
  go_enter Try.func7, Try.ntmps7
  go_wp2_with (first
    | (go_at_call_of 14 (Value.slice none 0 0); refine (addFour_nil w.heap.size n _ (by omega) (Nat.le_refl _)).mono ?_; rintro e w1 ⟨q1, c1, rfl, o1, b1⟩; have O1 : Hid (Own w1 w.heap.size (.slice q1 4 c1) (Crc.fourB n)) := o1; have B1 : Hid (Below w.heap.size w w1) := b1; clear o1 b1)
    | (go_at_call 15; refine (check_any (Crc.fourB n) l q1 a c1 c w1 (by rw [Crc.fourB_length]; omega) (by rw [hn.out]; omega) (own_parts O1.out).1 (ha.out.keep B1.out (Nat.le_refl _)) |> fun h => (by rw [hn.out, Crc.fourB_length, hk.out] at h; exact h : Calls Try.prog 15 #[.slice q1 4 c1, .slice a n c] w1 fun e w' => e = .returned (.int .u32 k) ∧ w' = w1)).mono ?_; rintro e w2 ⟨rfl, rfl⟩)
    | (go_at_call 14; refine (addFour_two w.heap.size k n q1 c1 _ HK.out O1.out B1.out.size).mono ?_; rintro e w3 ⟨q3, c3, rfl, o3, b3⟩; have O3 : Hid (Own w3 w.heap.size (.slice q3 8 c3) (Crc.fourB n ++ Crc.fourB k)) := o3; have B3 : Hid (Below w.heap.size w w3) := B1.out.trans b3; clear o3 b3 O1 B1)
    | (at_builtin; refine append_bytes rfl _ _ rfl w.heap.size (.slice q3 8 c3) (Crc.fourB n ++ Crc.fourB k) l rfl O3.out a c n rfl hn.out hc.out (ha.out.keep B3.out (Nat.le_refl _)) (by rw [hn.out, List.length_append, Crc.fourB_length, Crc.fourB_length]; omega) B3.out.size ?_; intro v' w4 h1 h2))
  go_ret2
  exact ⟨v', rfl, h1, B3.out.trans h2⟩

theorem frame_any (l : List UInt8) (a : Option Addr) (c : Nat) (w : World) (hle : l.length ≤ 4096) (ha : Lies w a l) (hc : a = none → c = 0) :
    Calls Try.prog 7 #[.slice a l.length c] w fun e w' => ∃ q c', e = .returned (.tuple #[.slice q (l.length + 8 : Nat) c', .int .i64 0]) ∧ Own w' w.heap.size (.slice q (l.length + 8 : Nat) c') (Crc.frame l) ∧ Below w.heap.size w w' := by
  refine (frame_at l a c l.length _ w rfl hle ha hc rfl).mono ?_
  rintro e w' ⟨v, rfl, h1, h2⟩
  have h1 : Own w' w.heap.size v (Crc.frame l) := h1
  obtain ⟨q, c', rfl, _⟩ := h1.shape
  rw [Crc.frame_length] at h1 ⊢
  exact ⟨q, c', rfl, h1, h2⟩

set_option maxHeartbeats 400000 in
theorem frame_long (a : Option Addr) (c n : Nat) (w : World) (hn : 4096 < (n : Int)) :
    Calls Try.prog 7 #[.slice a n c] w fun e w' => e = .returned (.tuple #[.slice none 0 0, .int .i64 1]) ∧ w' = w := by
  go_enter Try.func7, Try.ntmps7
  go_wp2_with fail
  go_ret2
  exact ⟨rfl, rfl⟩
set_option maxHeartbeats 400000 in
theorem rframe_long (a : Option Addr) (c n : Nat) (w : World) (hn : 4096 < (n : Int)) :
    Calls Try.prog 8 #[.slice a n c] w fun e w' => e = .returned (.tuple #[.slice none 0 0, .int .i64 1]) ∧ w' = w := by
  go_enter Try.func8, Try.ntmps8
  go_wp2_with fail
  go_ret2
  exact ⟨rfl, rfl⟩

/-- bytes behind an owned row, which stays where another row lies -/
theorem Own.stay {w w1 : World} {B B' : Nat} {v : Value} {l : List UInt8} (h : Own w B v l) (b : Below B' w w1) (hB : ∀ g, v.ownBlock = some g → g < B') : Own w1 B v l := by
  refine ⟨h.1, ?_⟩
  rcases h.2 with hn | ⟨g, cap, cur, rfl, hb, hgg, rest⟩
  · exact .inl hn
  · exact .inr ⟨g, cap, cur, rfl, hb, (b.block g (hB g rfl)).trans hgg, rest⟩
theorem own_lt {w : World} {B k : Nat} {g c : Nat} {l : List UInt8} (h : Own w B (.slice (some ⟨g, 0, none⟩) k c) l) : g < w.heap.size := (World.ownsRow.lt h g rfl).2

set_option maxHeartbeats 1000000 in
theorem rframe_at (l : List UInt8) (a : Option Addr) (c n k : Nat) (w : World) (hn : Hid (l.length = n)) (hle : n ≤ 4096) (ha : Hid (Lies w a l)) (hc : Hid (a = none → c = 0)) (hk : Hid (Crc.crc (Crc.fourB n ++ l) = k)) :
    Calls Try.prog 8 #[.slice a n c] w fun e w' => ∃ v, e = .returned (.tuple #[v, .int .i64 0]) ∧ Own w' w.heap.size v (Crc.fourB n ++ Crc.fourB k ++ l) ∧ Below w.heap.size w w' := by
  have HK : Hid (k < 4294967296) := by rw [← hk.out]; exact Crc.crc_lt _
  go_enter Try.func8, Try.ntmps8
  go_upto_region 4 with (go_at_call 16; refine (rfour_any n _ (by omega)).mono ?_; rintro e w1 ⟨g1, rfl, o1, b1⟩; have O1 : Hid (Own w1 w.heap.size (.slice (some ⟨g1, 0, none⟩) 4 4) (Crc.fourB n)) := o1; have B1 : Hid (Below w.heap.size w w1) := b1; clear o1 b1)
  go_upto_region 5 with (go_at_call 16; refine (rfour_any n _ (by omega)).mono ?_; rintro e w2 ⟨g2, rfl, o2, b2⟩; have O2 : Hid (Own w2 w1.heap.size (.slice (some ⟨g2, 0, none⟩) 4 4) (Crc.fourB n)) := o2; have B2 : Hid (Below w1.heap.size w1 w2) := b2; clear o2 b2)
  go_upto_region 6 with (at_builtin; refine append_bytes rfl _ _ rfl w1.heap.size (.slice (some ⟨g2, 0, none⟩) 4 4) (Crc.fourB n) l rfl O2.out a c n rfl hn.out hc.out ((ha.out.keep B1.out (Nat.le_refl _)).keep B2.out (Nat.le_refl _)) (by rw [hn.out, Crc.fourB_length]; omega) B2.out.size ?_; intro v3 w3 h3 b3)
  obtain ⟨q3, c3, rfl, l3, _⟩ := h3.shape
  have L3 : Hid (Lies w3 q3 (Crc.fourB n ++ l)) := l3
  have N3 : Hid ((Crc.fourB n ++ l).length = n + 4) := by rw [List.length_append, hn.out, Crc.fourB_length, Nat.add_comm]; exact rfl
  rw [N3.out]
  have P3 : Hid (Own w3 w.heap.size (.slice (some ⟨g1, 0, none⟩) 4 4) (Crc.fourB n)) := (O1.out.keep B2.out).stay b3 (fun g e => by cases e; exact own_lt O1.out)
  have Q3 : Hid (Below w.heap.size w w3) := B1.out.trans ((B2.out.trans b3).mono B1.out.size)
  clear h3 b3 l3 O1 B1 O2 B2
  go_upto_region 7 with (first
    | (go_at_call 17; refine (rcheck_any (Crc.fourB n ++ l) q3 c3 w3 (by rw [N3.out]; omega) L3.out |> fun h => (by rw [N3.out, hk.out] at h; exact h : Calls Try.prog 17 #[.slice q3 (n + 4 : Nat) c3] w3 fun e w' => e = .returned (.int .u32 k) ∧ w' = w3)).mono ?_; rintro e w4 ⟨rfl, rfl⟩)
    | (go_at_call 16; refine (rfour_any k _ HK.out).mono ?_; rintro e w5 ⟨g5, rfl, o5, b5⟩; have O5 : Hid (Own w5 w4.heap.size (.slice (some ⟨g5, 0, none⟩) 4 4) (Crc.fourB k)) := o5; have B5 : Hid (Below w4.heap.size w4 w5) := b5; have P5 : Hid (Own w5 w.heap.size (.slice (some ⟨g1, 0, none⟩) 4 4) (Crc.fourB n)) := P3.out.keep b5; have Q5 : Hid (Below w.heap.size w w5) := below_from Q3.out b5 Q3.out.size; clear o5 b5 P3 Q3)
    | (at_builtin; refine append_bytes rfl _ _ rfl w.heap.size (.slice (some ⟨g1, 0, none⟩) 4 4) (Crc.fourB n) (Crc.fourB k) rfl P5.out (some ⟨g5, 0, none⟩) 4 4 rfl rfl (fun e => by cases e) (own_parts O5.out).1 (by rw [Crc.fourB_length, Crc.fourB_length]; omega) Q5.out.size ?_; intro v6 w6 h6 b6))
  obtain ⟨q6, c6, rfl, _⟩ := h6.shape
  have B6 : Hid (Below w.heap.size w w6) := Q5.out.trans b6
  have O6 : Hid (Own w6 w.heap.size (.slice q6 (Crc.fourB n ++ Crc.fourB k).length c6) (Crc.fourB n ++ Crc.fourB k)) := h6
  clear h6 b6 Q5 P5
  have N6 : Hid ((Crc.fourB n ++ Crc.fourB k).length = 8) := by rw [List.length_append, Crc.fourB_length, Crc.fourB_length]; exact rfl
  rw [N6.out] at O6 ⊢
  go_wp2_with (at_builtin; refine append_bytes rfl _ _ rfl w.heap.size (.slice q6 8 c6) (Crc.fourB n ++ Crc.fourB k) l rfl O6.out a c n rfl hn.out hc.out (ha.out.keep B6.out (Nat.le_refl _)) (by rw [hn.out, N6.out]; omega) B6.out.size ?_; intro v' w7 h1 h2)
  go_ret2
  exact ⟨v', rfl, h1, B6.out.trans h2⟩

theorem rframe_any (l : List UInt8) (a : Option Addr) (c : Nat) (w : World) (hle : l.length ≤ 4096) (ha : Lies w a l) (hc : a = none → c = 0) :
    Calls Try.prog 8 #[.slice a l.length c] w fun e w' => ∃ q c', e = .returned (.tuple #[.slice q (l.length + 8 : Nat) c', .int .i64 0]) ∧ Own w' w.heap.size (.slice q (l.length + 8 : Nat) c') (Crc.frame l) ∧ Below w.heap.size w w' := by
  refine (rframe_at l a c l.length _ w rfl hle ha hc rfl).mono ?_
  rintro e w' ⟨v, rfl, h1, h2⟩
  have h1 : Own w' w.heap.size v (Crc.frame l) := h1
  obtain ⟨q, c', rfl, _⟩ := h1.shape
  rw [Crc.frame_length] at h1 ⊢
  exact ⟨q, c', rfl, h1, h2⟩

end Go.Proofs.Ytefidmjekjhdaaa
