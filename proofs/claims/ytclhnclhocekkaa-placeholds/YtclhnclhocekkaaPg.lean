/-
  The laws' awake and few.
-/
import Derived.Test.YtclhnclhocekkaaPf
namespace Go.Proofs.Ytclhnclhocekkaa
open Go.RowKit Go.Maps Go.Sort

def aT : List V := [⟨1, 0, 0, 0⟩, ⟨3, 0, 0, 0⟩]
def aS : List Sl := [⟨[97], ⟨3, 0, 0, 0⟩⟩, ⟨[98], ⟨3, 0, 0, 0⟩⟩]
theorem fit_awake : fitR aT aS = (0, [[98], [97]]) := by decide +kernel
set_option maxHeartbeats 1000000 in
set_option maxRecDepth 100000 in
theorem awake_any (w : World) : Calls Try.prog 9 #[] w fun e w' => e = .returned (.bool true) ∧ Below w.heap.size w w' := by
  have N1 := new0 (w := w) (o := .cells #[.int .i64 1, .int .i64 0, .int .i64 0, .int .i64 0, .int .i64 3, .int .i64 0, .int .i64 0, .int .i64 0] 41 (0, 0))
  have N2 := new0 (w := w.alloc (.cells #[.int .i64 1, .int .i64 0, .int .i64 0, .int .i64 0, .int .i64 3, .int .i64 0, .int .i64 0, .int .i64 0] 41 (0, 0))) (o := .cells #[.string ⟨#[97]⟩, .int .i64 3, .int .i64 0, .int .i64 0, .int .i64 0, .string ⟨#[98]⟩, .int .i64 3, .int .i64 0, .int .i64 0, .int .i64 0] 43 (0, 0))
  have B2 : Hid (Below w.heap.size w ((w.alloc (.cells #[.int .i64 1, .int .i64 0, .int .i64 0, .int .i64 0, .int .i64 3, .int .i64 0, .int .i64 0, .int .i64 0] 41 (0, 0))).alloc (.cells #[.string ⟨#[97]⟩, .int .i64 3, .int .i64 0, .int .i64 0, .int .i64 0, .string ⟨#[98]⟩, .int .i64 3, .int .i64 0, .int .i64 0, .int .i64 0] 43 (0, 0)))) := ((Below.refl _ w).alloc (Nat.le_refl _) _).alloc (by simp) _
  have N1 := at_alloc (o := .cells #[.string ⟨#[97]⟩, .int .i64 3, .int .i64 0, .int .i64 0, .int .i64 0, .string ⟨#[98]⟩, .int .i64 3, .int .i64 0, .int .i64 0, .int .i64 0] 43 (0, 0)) N1
  rw [World.size_alloc] at N2
  have H11 : Hid (Calls Try.prog 11 #[.slice (some ⟨w.heap.size, 0, none⟩) 2 2, .slice (some ⟨w.heap.size + 1, 0, none⟩) 2 2] ((w.alloc (.cells #[.int .i64 1, .int .i64 0, .int .i64 0, .int .i64 0, .int .i64 3, .int .i64 0, .int .i64 0, .int .i64 0] 41 (0, 0))).alloc (.cells #[.string ⟨#[97]⟩, .int .i64 3, .int .i64 0, .int .i64 0, .int .i64 0, .string ⟨#[98]⟩, .int .i64 3, .int .i64 0, .int .i64 0, .int .i64 0] 43 (0, 0))) fun e w' => ∃ g o c, e = .returned (.tuple #[.slice (some ⟨g, o, none⟩) 2 c, .int .i64 0]) ∧ w'.cell? ⟨g, o + 0, none⟩ = some (.string ⟨#[98]⟩) ∧ w'.cell? ⟨g, o + 1, none⟩ = some (.string ⟨#[97]⟩) ∧ Hid (Below w.heap.size w w')) := by
    refine (fit_any aT aS (some ⟨w.heap.size, 0, none⟩) (some ⟨w.heap.size + 1, 0, none⟩) 2 2 2 2 _ (fun i v hv => ?_) (fun i v hv => ?_) (fun s hs => ?_) (fun e => nomatch e) rfl rfl (by omega) (by omega)).mono ?_
    · refine ⟨_, 0, rfl, fun j u hu => ?_⟩
      match i, hv, j, hu with
      | 0, hv, 0, hu => cases hv; cases hu; exact Lib.cell_of_heap N1 0
      | 0, hv, 1, hu => cases hv; cases hu; exact Lib.cell_of_heap N1 1
      | 0, hv, 2, hu => cases hv; cases hu; exact Lib.cell_of_heap N1 2
      | 0, hv, 3, hu => cases hv; cases hu; exact Lib.cell_of_heap N1 3
      | 1, hv, 0, hu => cases hv; cases hu; exact Lib.cell_of_heap N1 4
      | 1, hv, 1, hu => cases hv; cases hu; exact Lib.cell_of_heap N1 5
      | 1, hv, 2, hu => cases hv; cases hu; exact Lib.cell_of_heap N1 6
      | 1, hv, 3, hu => cases hv; cases hu; exact Lib.cell_of_heap N1 7
    · refine ⟨_, 0, rfl, fun j u hu => ?_⟩
      match i, hv, j, hu with
      | 0, hv, 0, hu => cases hv; cases hu; exact Lib.cell_of_heap N2 0
      | 0, hv, 1, hu => cases hv; cases hu; exact Lib.cell_of_heap N2 1
      | 0, hv, 2, hu => cases hv; cases hu; exact Lib.cell_of_heap N2 2
      | 0, hv, 3, hu => cases hv; cases hu; exact Lib.cell_of_heap N2 3
      | 0, hv, 4, hu => cases hv; cases hu; exact Lib.cell_of_heap N2 4
      | 1, hv, 0, hu => cases hv; cases hu; exact Lib.cell_of_heap N2 5
      | 1, hv, 1, hu => cases hv; cases hu; exact Lib.cell_of_heap N2 6
      | 1, hv, 2, hu => cases hv; cases hu; exact Lib.cell_of_heap N2 7
      | 1, hv, 3, hu => cases hv; cases hu; exact Lib.cell_of_heap N2 8
      | 1, hv, 4, hu => cases hv; cases hu; exact Lib.cell_of_heap N2 9
    · simp only [aS, List.mem_cons, List.not_mem_nil, or_false] at hs
      rcases hs with rfl | rfl <;> (show 1 ≤ _; omega)
    · rintro e w' ⟨q, m, c, rfl, rfl, -, h⟩
      rw [fit_awake] at *
      obtain ⟨g, o, rfl, h0⟩ := h.out.1.at (i := 0) rfl
      obtain ⟨g', o', e', h1⟩ := h.out.1.at (i := 1) rfl
      cases e'
      exact ⟨g, o, c, rfl, h0, h1, below_from B2.out h.out.2 B2.out.size⟩
  clear N1 N2 B2
  go_enter Try.func9, Try.ntmps9
  go_wp2_with (go_at_call 11; refine H11.out.mono ?_; rintro e w1 ⟨g, o, c, rfl, c0, c1, h1⟩; rw [Nat.add_zero] at c0)
  go_ret
  exact ⟨rfl, h1.out⟩
def fewB (n m : Nat) : Bool := decide (n ≤ 100) && decide (m ≤ 100)
set_option maxHeartbeats 400000 in
theorem few_any (q r : Option Addr) (n c m d : Nat) (w : World) : Calls Try.prog 10 #[.slice q n c, .slice r m d] w fun e w' => e = .returned (.bool (fewB n m)) ∧ Below w.heap.size w w' := by
  unfold fewB
  by_cases h1 : n ≤ 100
  · have a1 : (n : Int) ≤ 100 := by omega
    have a2 : decide ((n : Int) ≤ 100) = true := decide_eq_true a1
    by_cases h2 : m ≤ 100
    · have b1 : (m : Int) ≤ 100 := by omega
      have b2 : decide ((m : Int) ≤ 100) = true := decide_eq_true b1
      go_enter Try.func10, Try.ntmps10
      go_wp2_with fail
      go_ret
      exact ⟨by simp [h1, h2], Below.refl _ _⟩
    · have b1 : ¬ (m : Int) ≤ 100 := by omega
      have b2 : decide ((m : Int) ≤ 100) = false := decide_eq_false b1
      go_enter Try.func10, Try.ntmps10
      go_wp2_with fail
      go_ret
      exact ⟨by simp, Below.refl _ _⟩
  · have a1 : ¬ (n : Int) ≤ 100 := by omega
    have a2 : decide ((n : Int) ≤ 100) = false := decide_eq_false a1
    go_enter Try.func10, Try.ntmps10
    go_wp2_with fail
    go_ret
    exact ⟨by simp, Below.refl _ _⟩
end Go.Proofs.Ytclhnclhocekkaa
