/-
  The document's Same of rows that say the same; awake.
-/
import Derived.Test.YtcgaekaollhmpaaGreatSh
import Derived.BigRegion
namespace Go.Proofs.YtcgaekaollhmpaaGreat
open Go.RowKit Go.Maps

theorem SR.get {b : Nat} {w : World} {q : Option Addr} {n c : Nat} {L : List (List UInt8)} (h : SR b w (.slice q n c) L) {k : Nat} {s : List UInt8} (hk : L[k]? = some s) : ∃ g, q = some ⟨g, 0, none⟩ ∧ w.cell? ⟨g, k, none⟩ = some (.string ⟨⟨s⟩⟩) := by
  obtain ⟨g, hg, hc⟩ := h.at sC_len hk
  refine ⟨g, hg, ?_⟩
  have := hc 0 _ rfl
  rwa [Nat.mul_one, Nat.add_zero] at this
def uA : U := ⟨[97], 1, ⟨4, 0, 0, 0⟩⟩
def uB : U := ⟨[98], 2, ⟨4, 0, 0, 0⟩⟩
def v10 : Vs.V := ⟨10, 0, 0, 0⟩
theorem ten_a : ten v10 uA = ⟨[97], 2, 5⟩ ∧ er v10 uA = 0 := by
  have : sh v10 uA = (2, 5, 0) := by decide +kernel
  unfold ten er
  rw [this]
  exact ⟨rfl, rfl⟩
theorem ten_b : ten v10 uB = ⟨[98], 1, 5⟩ ∧ er v10 uB = 0 := by
  have : sh v10 uB = (1, 5, 0) := by decide +kernel
  unfold ten er
  rw [this]
  exact ⟨rfl, rfl⟩
theorem ord_ab : OrdR v10 [uA, uB] 0 [⟨[98], 1, 5⟩, ⟨[97], 2, 5⟩] := by
  refine .inr (.inr ⟨fstE_zero.2 fun u hu => ?_, ?_, rfl, ?_, ?_⟩)
  · rcases List.mem_cons.1 hu with rfl | hu
    · exact ten_a.2
    · rw [List.mem_singleton.1 hu]; exact ten_b.2
  · exact List.pairwise_cons.2 ⟨fun b hb => by rw [List.mem_singleton.1 hb]; decide, List.pairwise_singleton _ _⟩
  · simp only [List.map_cons, List.map_nil, ten_a.1, ten_b.1]
    exact List.Perm.swap _ _ _
  · exact List.pairwise_cons.2 ⟨fun b hb => by rw [List.mem_singleton.1 hb]; exact .inl (by decide), List.pairwise_singleton _ _⟩
set_option maxHeartbeats 2000000 in
set_option maxRecDepth 100000 in
theorem awake_any (w : World) : Calls Tryz.prog 4 #[] w fun e w' => e = .returned (.bool true) ∧ Hid (Below w.heap.size w w') := by
  go_enter Tryz.func4, Tryz.ntmps4
  have N1 := new0 (w := w) (o := .cells #[.string ⟨#[97]⟩, .int .i64 1, .int .i64 4, .int .i64 0, .int .i64 0, .int .i64 0, .string ⟨#[98]⟩, .int .i64 2, .int .i64 4, .int .i64 0, .int .i64 0, .int .i64 0] 37 (0, 0))
  have B1 : Hid (Below w.heap.size w (w.alloc (.cells #[.string ⟨#[97]⟩, .int .i64 1, .int .i64 4, .int .i64 0, .int .i64 0, .int .i64 0, .string ⟨#[98]⟩, .int .i64 2, .int .i64 4, .int .i64 0, .int .i64 0, .int .i64 0] 37 (0, 0)))) := (Below.refl _ w).alloc (Nat.le_refl _) _
  have HU : UArg (w.alloc (.cells #[.string ⟨#[97]⟩, .int .i64 1, .int .i64 4, .int .i64 0, .int .i64 0, .int .i64 0, .string ⟨#[98]⟩, .int .i64 2, .int .i64 4, .int .i64 0, .int .i64 0, .int .i64 0] 37 (0, 0))) (some ⟨w.heap.size, 0, none⟩) [uA, uB] := by
    refine ⟨fun i u hu => ?_, fun u hu => ?_⟩
    · match i, hu with
      | 0, hu => cases hu; exact ⟨_, 0, rfl, Lib.cell_of_heap N1 0, Lib.cell_of_heap N1 1, Lib.cell_of_heap N1 2, Lib.cell_of_heap N1 3, Lib.cell_of_heap N1 4, Lib.cell_of_heap N1 5⟩
      | 1, hu => cases hu; exact ⟨_, 0, rfl, Lib.cell_of_heap N1 6, Lib.cell_of_heap N1 7, Lib.cell_of_heap N1 8, Lib.cell_of_heap N1 9, Lib.cell_of_heap N1 10, Lib.cell_of_heap N1 11⟩
    · rcases List.mem_cons.1 hu with rfl | hu
      · show 1 ≤ _; omega
      · rw [List.mem_singleton.1 hu]; show 1 ≤ _; omega
  have H8 : Hid (Calls Tryz.prog 8 #[.agg #[.int .i64 10, .int .i64 0, .int .i64 0, .int .i64 0], .slice (some ⟨w.heap.size, 0, none⟩) 2 2] (w.alloc (.cells #[.string ⟨#[97]⟩, .int .i64 1, .int .i64 4, .int .i64 0, .int .i64 0, .int .i64 0, .string ⟨#[98]⟩, .int .i64 2, .int .i64 4, .int .i64 0, .int .i64 0, .int .i64 0] 37 (0, 0))) fun e w' => ∃ g c, e = .returned (.tuple #[.slice (some ⟨g, 0, none⟩) 2 c, .int .i64 0]) ∧ Hid (w'.cell? ⟨g, 0, none⟩ = some (.string ⟨#[98]⟩) ∧ Below w.heap.size w w')) := by
    refine (order_any v10 (some ⟨w.heap.size, 0, none⟩) 2 2 [uA, uB] _ rfl HU (by omega)).mono ?_
    rintro e w' ⟨p, m, c', err, R, rfl, -, h⟩
    obtain ⟨h1, h2, h3⟩ := h.out
    obtain ⟨rfl, rfl⟩ := h1.uniq ord_ab
    obtain ⟨g, rfl, hg⟩ := SR.get h2 (k := 0) (s := [98]) rfl
    obtain rfl : m = 2 := h2.len
    exact ⟨g, c', rfl, hg, B1.out.trans (h3.mono B1.out.size)⟩
  clear N1 HU B1
  go_upto_region 2 with (go_at_call 8; refine H8.out.mono ?_; rintro e w1 ⟨g, c, rfl, h1⟩)
  have y0 := h1.out.1
  have HB : Hid (Below w.heap.size w w1) := h1.out.2
  clear h1 H8
  go_wp2_with fail
  go_ret
  exact ⟨by simp, HB.out⟩
end Go.Proofs.YtcgaekaollhmpaaGreat
