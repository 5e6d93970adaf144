/-
  The contract of the reference's Open, whole.
-/
import Derived.Test.YtefidmjekjhdaaaWalkG
namespace Go.Proofs.Ytefidmjekjhdaaa
open Go.RowKit

/-- what the reference's Open answers -/
def ropenAns (w' : World) (l : List UInt8) (e : Ending) : Prop :=
  match Crc.opened l with
  | none => e = .returned (.tuple #[.slice none 0 0, .slice none 0 0, .int .i64 12])
  | some (x, y) => ∃ q c' q' c'', e = .returned (.tuple #[.slice q x.length c', .slice q' y.length c'', .int .i64 0]) ∧ Lies w' q x ∧ Lies w' q' y

theorem ropen_any (l : List UInt8) (a : Option Addr) (c : Nat) (w : World) (ha : Lies w a l) (hlc : l.length ≤ c) (hl : l.length ≤ 140737488355328) :
    Calls Try.prog 10 #[.slice a l.length c] w fun e w' => ropenAns w' l e ∧ Below w.heap.size w w' := by
  by_cases h8 : l.length < 8
  · have e : Crc.opened l = none := by unfold Crc.opened; rw [if_pos h8]
    refine (ropen_short a c l.length w (by omega)).mono ?_
    rintro r w' ⟨rfl, rfl⟩
    refine ⟨?_, Below.refl _ _⟩
    unfold ropenAns; rw [e]
  rcases ha with rfl | ⟨g, o, rfl, ha⟩
  · simp at h8
  obtain ⟨x0, x1, x2, x3, hR, hN⟩ : ∃ x0 x1 x2 x3 : UInt8, Row w g o [x0, x1, x2, x3] ∧ (x0.toNat : Int) + (x1.toNat : Int) * 256 + (x2.toNat : Int) * 65536 + (x3.toNat : Int) * 16777216 = (Crc.fourN l : Int) := by
    obtain ⟨x0, x1, x2, x3, x4, x5, x6, x7, r, rfl⟩ := Crc.eight l h8
    refine ⟨x0, x1, x2, x3, fun k x hx => ha k x ?_, ?_⟩
    · match k, hx with
      | 0, hx | 1, hx | 2, hx | 3, hx => exact hx
    · simp only [Crc.fourN]; omega
  have hS := Crc.opened_same l h8
  by_cases hs : 4096 < Crc.fourN l ∨ l.length - 8 < Crc.fourN l
  · have e : Crc.opened l = none := by unfold Crc.opened; rw [if_neg h8, if_pos hs]
    refine (ropen_size x0 x1 x2 x3 g o c l.length (Crc.fourN l) w (by omega) hR hN (by omega)).mono ?_
    rintro r w' ⟨rfl, hb⟩
    refine ⟨?_, hb⟩
    unfold ropenAns; rw [e]
  have hS := hS hs
  have hO : Crc.opened l = if Crc.fourN (l.drop 4) = Crc.crc (l.take 4 ++ (l.drop 8).take (Crc.fourN l)) then some ((l.drop 8).take (Crc.fourN l), (l.drop 8).drop (Crc.fourN l)) else none := by
    unfold Crc.opened; rw [if_neg h8, if_neg hs]
  generalize Crc.fourN l = m at *
  have d8 : (l.drop 8).length = l.length - 8 := List.length_drop ..
  have tx : ((l.drop 8).take m).length = m := by rw [List.length_take]; omega
  have ty : ((l.drop 8).drop m).length = l.length - (8 + m) := by rw [List.length_drop, d8]; omega
  have t8 : (l.take (8 + m)).length = 8 + m := by rw [List.length_take]; omega
  have L : Lies w (some ⟨g, o, none⟩) l := .inr ⟨g, o, rfl, ha⟩
  have Lx : Lies w (cutA (some ⟨g, o, none⟩) c 8) ((l.drop 8).take m) := lies_take m (lies_cut (lo := 8) L hlc)
  have Ly : Lies w (cutA (some ⟨g, o, none⟩) c (8 + m)) ((l.drop 8).drop m) := by rw [List.drop_drop]; exact lies_cut L hlc
  have L0 : Lies w (cutA (some ⟨g, o, none⟩) c 0) (l.take (8 + m)) := lies_take _ (by have := lies_cut (c := c) (lo := 0) L hlc; rwa [List.drop_zero] at this)
  have H8 : ∀ w', w'.heap = w.heap → Calls Try.prog 8 #[.slice (cutA (some ⟨g, o, none⟩) c 8) m (c - 8)] w' fun e w'' => ∃ q c', e = .returned (.tuple #[.slice q (m + 8 : Nat) c', .int .i64 0]) ∧ Own w'' w'.heap.size (.slice q (m + 8 : Nat) c') (Crc.frame ((l.drop 8).take m)) ∧ Below w'.heap.size w' w'' := by
    intro w' hw
    have := rframe_any ((l.drop 8).take m) (cutA (some ⟨g, o, none⟩) c 8) (c - 8) w' (by omega) (lies_heap Lx hw) (cut_none fun e => by cases e)
    rwa [tx] at this
  have H11 : ∀ q c' w', Below w.heap.size w w' → Lies w' q (Crc.frame ((l.drop 8).take m)) → Calls Try.prog 11 #[.slice q (m + 8 : Nat) c', .slice (cutA (some ⟨g, o, none⟩) c 0) (8 + m) c] w' fun e w'' => e = .returned (.bool (decide (Crc.frame ((l.drop 8).take m) = l.take (8 + m)))) ∧ Below w'.heap.size w' w'' := by
    intro q c' w' hb hq
    have hf : (Crc.frame ((l.drop 8).take m)).length = m + 8 := by rw [Crc.frame_length, tx]
    have := same_any (Crc.frame ((l.drop 8).take m)) (l.take (8 + m)) q (cutA (some ⟨g, o, none⟩) c 0) c' c w' (by omega) hq (L0.keep hb (Nat.le_refl _))
    rwa [hf, t8] at this
  refine (ropen_at x0 x1 x2 x3 g o c l.length m _ _ w (by omega) hlc (by omega) hR hN (by omega) (by omega) H8 H11).mono ?_
  rintro e w' ⟨rfl, b⟩
  refine ⟨?_, b⟩
  unfold ropenAns
  rw [hO]
  by_cases hk : Crc.fourN (l.drop 4) = Crc.crc (l.take 4 ++ (l.drop 8).take m)
  · rw [if_pos hk, decide_eq_true (hS.2 hk)]
    simp only [if_true]
    rw [tx, ty]
    exact ⟨_, _, _, _, rfl, Lx.keep b (Nat.le_refl _), Ly.keep b (Nat.le_refl _)⟩
  · rw [if_neg hk, decide_eq_false (fun h => hk (hS.1 h))]
    rfl

end Go.Proofs.Ytefidmjekjhdaaa
