/-
  The contract of the reference's Open.
-/
import Derived.Test.YtefidmjekjhdaaaWalkF
namespace Go.Proofs.Ytefidmjekjhdaaa
open Go.RowKit

set_option maxHeartbeats 1000000 in
theorem ropen_size (x0 x1 x2 x3 : UInt8) (g o c n m : Nat) (w : World) (hn : 8 ≤ n) (hr : Hid (Row w g o [x0, x1, x2, x3]))
    (hN : (x0.toNat : Int) + (x1.toNat : Int) * 256 + (x2.toNat : Int) * 65536 + (x3.toNat : Int) * 16777216 = (m : Int)) (h : 4096 < (m : Int) ∨ ((m : Int) ≤ 4096 ∧ (n : Int) - 8 < (m : Int))) :
    Calls Try.prog 10 #[.slice (some ⟨g, o, none⟩) n c] w fun e w' => e = .returned (.tuple #[.slice none 0 0, .slice none 0 0, .int .i64 12]) ∧ Below w.heap.size w w' := by
  have h0 := hr.out 0 x0 rfl
  have h1 := hr.out 1 x1 rfl
  have h2 := hr.out 2 x2 rfl
  have h3 := hr.out 3 x3 rfl
  have ba := u8_bd x0
  have bb := u8_bd x1
  have bc := u8_bd x2
  have bd := u8_bd x3
  rw [Nat.add_zero] at h0
  have hn8 : decide ((n : Int) < 8) = false := decide_eq_false (by omega)
  rcases h with h | ⟨h, h'⟩
  all_goals go_enter Try.func10, Try.ntmps10
  all_goals go_wp2_with fail
  all_goals go_quiet (fail)
  all_goals go_wp2_with fail
  all_goals go_ret3
  all_goals exact ⟨rfl, below_drewN (Below.refl _ _) _⟩

set_option maxHeartbeats 1000000 in
theorem ropen_at (x0 x1 x2 x3 : UInt8) (g o c n m : Nat) (x : List UInt8) (b : Bool) (w : World) (hn : 8 ≤ n) (hc : n ≤ c) (hn62 : n < 1152921504606846976) (hr : Hid (Row w g o [x0, x1, x2, x3]))
    (hN : (x0.toNat : Int) + (x1.toNat : Int) * 256 + (x2.toNat : Int) * 65536 + (x3.toNat : Int) * 16777216 = (m : Int)) (hm : m ≤ 4096) (hmn : m + 8 ≤ n)
    (H8 : Hid (∀ w', w'.heap = w.heap → Calls Try.prog 8 #[.slice (cutA (some ⟨g, o, none⟩) c 8) m (c - 8)] w' fun e w'' => ∃ q c', e = .returned (.tuple #[.slice q (m + 8 : Nat) c', .int .i64 0]) ∧ Own w'' w'.heap.size (.slice q (m + 8 : Nat) c') (Crc.frame x) ∧ Below w'.heap.size w' w''))
    (H11 : Hid (∀ q c' w', Below w.heap.size w w' → Lies w' q (Crc.frame x) → Calls Try.prog 11 #[.slice q (m + 8 : Nat) c', .slice (cutA (some ⟨g, o, none⟩) c 0) (8 + m) c] w' fun e w'' => e = .returned (.bool b) ∧ Below w'.heap.size w' w'')) :
    Calls Try.prog 10 #[.slice (some ⟨g, o, none⟩) n c] w fun e w' => e = .returned (.tuple (if b then #[.slice (cutA (some ⟨g, o, none⟩) c 8) m (c - 8), .slice (cutA (some ⟨g, o, none⟩) c (8 + m)) (n - (8 + m)) (c - (8 + m)), .int .i64 0] else #[.slice none 0 0, .slice none 0 0, .int .i64 12])) ∧ Below w.heap.size w w' := by
  have h0 := hr.out 0 x0 rfl
  have h1 := hr.out 1 x1 rfl
  have h2 := hr.out 2 x2 rfl
  have h3 := hr.out 3 x3 rfl
  have ba := u8_bd x0
  have bb := u8_bd x1
  have bc := u8_bd x2
  have bd := u8_bd x3
  rw [Nat.add_zero] at h0
  generalize hA : (some ⟨g, o, none⟩ : Option Addr) = A at H8 H11 ⊢
  have s1 := slice_lh A n c 8 (8 + m) .i64 .i64 8 (8 + (m : Int)) rfl (by omega) (by omega) (by omega)
  have s2 := slice_h A n c (8 + m) .i64 (8 + (m : Int)) (by omega) (by omega)
  have s3 := slice_l A n c (8 + m) .i64 (8 + (m : Int)) (by omega) (by omega)
  rw [← hA] at s1 s2 s3 H8 H11 ⊢
  have hn8 : decide ((n : Int) < 8) = false := decide_eq_false (by omega)
  have hm8 : decide ((4096 : Int) < (m : Int)) = false := decide_eq_false (by omega)
  have hm9 : decide ((n : Int) - 8 < (m : Int)) = false := decide_eq_false (by omega)
  clear hA
  go_enter Try.func10, Try.ntmps10
  go_wp2_with fail
  go_quiet (fail)
  have E2 : Hid ((w.drewN nq).heap = w.heap) := (rfl : w.heap = w.heap)
  have B2 : Hid (Below w.heap.size w (w.drewN nq)) := below_drewN (Below.refl _ _) _
  generalize w.drewN nq = w2 at *
  clear h0 h1 h2 h3
  go_wp2_with fail
  refine (H8.out _ E2.out).mono ?_
  rintro e w3 ⟨q3, c3, rfl, o3, b3⟩
  have L3 : Hid (Lies w3 q3 (Crc.frame x)) := (own_parts o3).1
  have B3 : Hid (Below w.heap.size w w3) := below_from B2.out b3 B2.out.size
  clear o3 b3
  go_wp2_with fail
  refine (H11.out _ _ _ B3.out L3.out).mono ?_
  rintro e w4 ⟨rfl, b4⟩
  have B4 : Hid (Below w.heap.size w w4) := below_from B3.out b4 B3.out.size
  clear b4
  cases b
  · go_wp2_with fail
    go_ret3
    exact ⟨rfl, B4.out⟩
  · go_wp2_with fail
    go_quiet (fail)
    go_wp2_with fail
    go_ret3
    exact ⟨rfl, below_drewN B4.out _⟩

end Go.Proofs.Ytefidmjekjhdaaa
