/-
  The walk of WireFrames.
-/
import Derived.Test.YtefidmjekjhdaaaAwk
namespace Go.Proofs.Ytefidmjekjhdaaa
open Go.RowKit

/-- bytes of a slice -/
def Has (w : World) (q : Option Addr) (k : Nat) (l : List UInt8) : Prop := Lies w q l ∧ l.length = k
theorem Has.keep {w w1 : World} {q : Option Addr} {k B : Nat} {l : List UInt8} (h : Has w q k l) (b : Below B w w1) (hB : w.heap.size ≤ B) : Has w1 q k l := ⟨h.1.keep b hB, h.2⟩
theorem has_nil (w : World) (q : Option Addr) : Has w q 0 [] := ⟨.inl rfl, rfl⟩

def ffr (l : List UInt8) : List UInt8 := if l.length ≤ 4096 then Crc.frame l else []
def fer (l : List UInt8) : Int := if l.length ≤ 4096 then 0 else 1

theorem frame_gen (l : List UInt8) (a : Option Addr) (c : Nat) (w : World) (ha : Lies w a l) (hc : a = none → c = 0) :
    Calls Try.prog 7 #[.slice a l.length c] w fun e w' => ∃ q k c', e = .returned (.tuple #[.slice q k c', .int .i64 (fer l)]) ∧ Has w' q k (ffr l) ∧ Below w.heap.size w w' := by
  unfold fer ffr
  by_cases h : l.length ≤ 4096
  · rw [if_pos h, if_pos h]
    refine (frame_any l a c w h ha hc).mono ?_
    rintro e w' ⟨q, c', rfl, h1, h2⟩
    exact ⟨q, _, c', rfl, ⟨(own_parts h1).1, (own_parts h1).2.2⟩, h2⟩
  · rw [if_neg h, if_neg h]
    refine (frame_long a c l.length w (by omega)).mono ?_
    rintro e w' ⟨rfl, rfl⟩
    exact ⟨none, 0, 0, rfl, has_nil _ _, Below.refl _ _⟩
theorem rframe_gen (l : List UInt8) (a : Option Addr) (c : Nat) (w : World) (ha : Lies w a l) (hc : a = none → c = 0) :
    Calls Try.prog 8 #[.slice a l.length c] w fun e w' => ∃ q k c', e = .returned (.tuple #[.slice q k c', .int .i64 (fer l)]) ∧ Has w' q k (ffr l) ∧ Below w.heap.size w w' := by
  unfold fer ffr
  by_cases h : l.length ≤ 4096
  · rw [if_pos h, if_pos h]
    refine (rframe_any l a c w h ha hc).mono ?_
    rintro e w' ⟨q, c', rfl, h1, h2⟩
    exact ⟨q, _, c', rfl, ⟨(own_parts h1).1, (own_parts h1).2.2⟩, h2⟩
  · rw [if_neg h, if_neg h]
    refine (rframe_long a c l.length w (by omega)).mono ?_
    rintro e w' ⟨rfl, rfl⟩
    exact ⟨none, 0, 0, rfl, has_nil _ _, Below.refl _ _⟩

def opx (l : List UInt8) : List UInt8 := match Crc.opened l with | none => [] | some (x, _) => x
def opy (l : List UInt8) : List UInt8 := match Crc.opened l with | none => [] | some (_, y) => y
def ope (l : List UInt8) : Int := match Crc.opened l with | none => 12 | some _ => 0

theorem open_gen (l : List UInt8) (a : Option Addr) (c : Nat) (w : World) (ha : Lies w a l) (hc : a = none → c = 0) (hlc : l.length ≤ c) (hl : l.length ≤ 140737488355328) :
    Calls Try.prog 9 #[.slice a l.length c] w fun e w' => ∃ q k c' q' k' c'', e = .returned (.tuple #[.slice q k c', .slice q' k' c'', .int .i64 (ope l)]) ∧ Has w' q k (opx l) ∧ Has w' q' k' (opy l) ∧ Below w.heap.size w w' := by
  refine (open_any l a c w ha hc hlc hl).mono ?_
  rintro e w' ⟨h, b⟩
  unfold openAns at h
  unfold opx opy ope
  cases ho : Crc.opened l with
  | none =>
    rw [ho] at h
    exact ⟨none, 0, 0, none, 0, 0, h, has_nil _ _, has_nil _ _, b⟩
  | some p =>
    obtain ⟨x, y⟩ := p
    rw [ho] at h
    obtain ⟨q, c', q', c'', rfl, o1, o2, _⟩ := h
    exact ⟨q, _, c', q', _, c'', rfl, ⟨(own_parts o1).1, rfl⟩, ⟨(own_parts o2).1, rfl⟩, b⟩
theorem ropen_gen (l : List UInt8) (a : Option Addr) (c : Nat) (w : World) (ha : Lies w a l) (hlc : l.length ≤ c) (hl : l.length ≤ 140737488355328) :
    Calls Try.prog 10 #[.slice a l.length c] w fun e w' => ∃ q k c' q' k' c'', e = .returned (.tuple #[.slice q k c', .slice q' k' c'', .int .i64 (ope l)]) ∧ Has w' q k (opx l) ∧ Has w' q' k' (opy l) ∧ Below w.heap.size w w' := by
  refine (ropen_any l a c w ha hlc hl).mono ?_
  rintro e w' ⟨h, b⟩
  unfold ropenAns at h
  unfold opx opy ope
  cases ho : Crc.opened l with
  | none =>
    rw [ho] at h
    exact ⟨none, 0, 0, none, 0, 0, h, has_nil _ _, has_nil _ _, b⟩
  | some p =>
    obtain ⟨x, y⟩ := p
    rw [ho] at h
    obtain ⟨q, c', q', c'', rfl, o1, o2⟩ := h
    exact ⟨q, _, c', q', _, c'', rfl, ⟨o1, rfl⟩, ⟨o2, rfl⟩, b⟩

theorem ope_lt (l : List UInt8) : (opx l).length ≤ l.length ∧ (opy l).length ≤ l.length := by
  unfold opx opy Crc.opened
  by_cases h1 : l.length < 8
  · rw [if_pos h1]; simp
  rw [if_neg h1]
  by_cases h2 : 4096 < Crc.fourN l ∨ l.length - 8 < Crc.fourN l
  · rw [if_pos h2]; simp
  rw [if_neg h2]
  by_cases h3 : Crc.fourN (l.drop 4) = Crc.crc (l.take 4 ++ (l.drop 8).take (Crc.fourN l))
  · rw [if_pos h3]
    simp only [List.length_take, List.length_drop]
    omega
  · rw [if_neg h3]; simp

theorem same_has (l : List UInt8) (q q' : Option Addr) (k k' c c' : Nat) (w : World) (h : Has w q k l) (h' : Has w q' k' l) (hl : l.length < 1152921504606846976) :
    Calls Try.prog 11 #[.slice q k c, .slice q' k' c'] w fun e w' => e = .returned (.bool true) ∧ Below w.heap.size w w' := by
  obtain ⟨h1, rfl⟩ := h
  obtain ⟨h2, h3⟩ := h'
  rw [← h3]
  have := same_any l l q q' c c' w hl h1 h2
  simpa using this

set_option maxHeartbeats 400000 in
theorem frames_long (a : Option Addr) (c n : Nat) (w : World) (hn : 100000 < (n : Int)) :
    Calls Try.prog 3 #[.slice a n c] w fun e w' => e = .returned (.bool true) ∧ Below w.heap.size w w' := by
  go_enter Try.func3, Try.ntmps3
  go_upto_region 2 with (go_at_call 6; refine (awake_any _).mono ?_; rintro e w1 ⟨rfl, b1⟩)
  go_wp2_with (go_at_call 6; refine (awake_any _).mono ?_; rintro e w2 ⟨rfl, b2⟩)
  go_ret
  exact ⟨rfl, below_from b1 b2 b1.size⟩

set_option maxHeartbeats 1000000 in
theorem frames_at (a : Option Addr) (c n : Nat) (f e1 : Int) (F X Y : List UInt8) (w : World) (hn : decide ((100000 : Int) < (n : Int)) = false) (hF : Hid (F.length < 1152921504606846976)) (hX : Hid (X.length < 1152921504606846976)) (hY : Hid (Y.length < 1152921504606846976))
    (H7 : Hid (∀ W, Below w.heap.size w W → Calls Try.prog 7 #[.slice a n c] W fun e w' => ∃ q k c', e = .returned (.tuple #[.slice q k c', .int .i64 f]) ∧ Has w' q k F ∧ Below W.heap.size W w'))
    (H8 : Hid (∀ W, Below w.heap.size w W → Calls Try.prog 8 #[.slice a n c] W fun e w' => ∃ q k c', e = .returned (.tuple #[.slice q k c', .int .i64 f]) ∧ Has w' q k F ∧ Below W.heap.size W w'))
    (H9 : Hid (∀ W, Below w.heap.size w W → Calls Try.prog 9 #[.slice a n c] W fun e w' => ∃ q k c' q' k' c'', e = .returned (.tuple #[.slice q k c', .slice q' k' c'', .int .i64 e1]) ∧ Has w' q k X ∧ Has w' q' k' Y ∧ Below W.heap.size W w'))
    (H10 : Hid (∀ W, Below w.heap.size w W → Calls Try.prog 10 #[.slice a n c] W fun e w' => ∃ q k c' q' k' c'', e = .returned (.tuple #[.slice q k c', .slice q' k' c'', .int .i64 e1]) ∧ Has w' q k X ∧ Has w' q' k' Y ∧ Below W.heap.size W w')) :
    Calls Try.prog 3 #[.slice a n c] w fun e w' => e = .returned (.bool true) ∧ Below w.heap.size w w' := by
  go_enter Try.func3, Try.ntmps3
  go_upto_region 7 with (first
    | (go_at_call 6; refine (awake_any _).mono ?_; rintro e w1 ⟨rfl, b1⟩; have y1 : Hid (Below w.heap.size w w1) := b1; clear b1)
    | (go_at_call 7; refine (H7.out _ y1.out).mono ?_; rintro e w2 ⟨q2, k2, c2, rfl, f2, b2⟩; have y2 : Hid (Below w.heap.size w w2) := below_from y1.out b2 y1.out.size; have z2 : Hid (Has w2 q2 k2 F) := f2; clear f2 b2 y1)
    | (go_at_call 8; refine (H8.out _ y2.out).mono ?_; rintro e w3 ⟨q3, k3, c3, rfl, f3, b3⟩; have y3 : Hid (Below w.heap.size w w3) := below_from y2.out b3 y2.out.size; have z3 : Hid (Has w3 q3 k3 F) := f3; have z2a : Hid (Has w3 q2 k2 F) := z2.out.keep b3 (Nat.le_refl _); clear f3 b3 y2 z2)
    | (go_at_call 9; refine (H9.out _ y3.out).mono ?_; rintro e w4 ⟨q4, k4, c4, p4, j4, d4, rfl, f4, g4, b4⟩; have y4 : Hid (Below w.heap.size w w4) := below_from y3.out b4 y3.out.size; have z4 : Hid (Has w4 q4 k4 X) := f4; have x4 : Hid (Has w4 p4 j4 Y) := g4; have z2b : Hid (Has w4 q2 k2 F) := z2a.out.keep b4 (Nat.le_refl _); have z3b : Hid (Has w4 q3 k3 F) := z3.out.keep b4 (Nat.le_refl _); clear f4 g4 b4 y3 z2a z3)
    | (go_at_call 10; refine (H10.out _ y4.out).mono ?_; rintro e w5 ⟨q5, k5, c5, p5, j5, d5, rfl, f5, g5, b5⟩; have y5 : Hid (Below w.heap.size w w5) := below_from y4.out b5 y4.out.size; have z5 : Hid (Has w5 q5 k5 X) := f5; have x5 : Hid (Has w5 p5 j5 Y) := g5; have z2c : Hid (Has w5 q2 k2 F) := z2b.out.keep b5 (Nat.le_refl _); have z3c : Hid (Has w5 q3 k3 F) := z3b.out.keep b5 (Nat.le_refl _); have z4c : Hid (Has w5 q4 k4 X) := z4.out.keep b5 (Nat.le_refl _); have x4c : Hid (Has w5 p4 j4 Y) := x4.out.keep b5 (Nat.le_refl _); clear f5 g5 b5 y4 z2b z3b z4 x4))
  go_wp2_with fail
  refine (same_has F q2 q3 k2 k3 c2 c3 w5 z2c.out z3c.out hF.out).mono ?_
  rintro e w6 ⟨rfl, b6⟩
  have z5d : Hid (Has w6 q5 k5 X) := z5.out.keep b6 (Nat.le_refl _)
  have x5d : Hid (Has w6 p5 j5 Y) := x5.out.keep b6 (Nat.le_refl _)
  have z4d : Hid (Has w6 q4 k4 X) := z4c.out.keep b6 (Nat.le_refl _)
  have x4d : Hid (Has w6 p4 j4 Y) := x4c.out.keep b6 (Nat.le_refl _)
  have y6 : Hid (Below w.heap.size w w6) := below_from y5.out b6 y5.out.size
  clear b6 y5 z5 x5 z4c x4c z2c z3c
  go_wp2_with fail
  refine (same_has X q4 q5 k4 k5 c4 c5 w6 z4d.out z5d.out hX.out).mono ?_
  rintro e w7 ⟨rfl, b7⟩
  have x5e : Hid (Has w7 p5 j5 Y) := x5d.out.keep b7 (Nat.le_refl _)
  have x4e : Hid (Has w7 p4 j4 Y) := x4d.out.keep b7 (Nat.le_refl _)
  have y7 : Hid (Below w.heap.size w w7) := below_from y6.out b7 y6.out.size
  clear b7 y6 z5d x5d z4d x4d
  go_wp2_with fail
  refine (same_has Y p4 p5 j4 j5 d4 d5 w7 x4e.out x5e.out hY.out).mono ?_
  rintro e w8 ⟨rfl, b8⟩
  go_wp2_with fail
  go_ret
  exact ⟨rfl, below_from y7.out b8 y7.out.size⟩

theorem law_frames (l : List UInt8) (a : Option Addr) (c : Nat) (w : World) (ha : Lies w a l) (hc : a = none → c = 0) (hlc : l.length ≤ c) (hl : l.length ≤ 140737488355328) :
    Calls Try.prog 3 #[.slice a l.length c] w fun e w' => e = .returned (.bool true) ∧ Below w.heap.size w w' := by
  by_cases h : 100000 < (l.length : Int)
  · exact frames_long a c l.length w h
  · have := ope_lt l
    have hf : (ffr l).length < 1152921504606846976 := by
      unfold ffr; split
      · rw [Crc.frame_length]; omega
      · simp
    exact frames_at a c l.length _ _ _ _ _ w (decide_eq_false h) hf (by unfold Hid; omega) (by unfold Hid; omega) (fun W b => frame_gen l a c W (ha.keep b (Nat.le_refl _)) hc) (fun W b => rframe_gen l a c W (ha.keep b (Nat.le_refl _)) hc) (fun W b => open_gen l a c W (ha.keep b (Nat.le_refl _)) hc hlc hl) (fun W b => ropen_gen l a c W (ha.keep b (Nat.le_refl _)) hlc hl)

end Go.Proofs.Ytefidmjekjhdaaa
