/-
  Len, Min of a heap; that the program is awake.
-/
import Derived.Test.YtcgaekaollhmpaaGreatNd
namespace Go.Proofs.YtcgaekaollhmpaaGreat
open Go.RowKit Go.Maps

set_option maxHeartbeats 400000 in
theorem len_none (w : World) (hb : Nat) (f : Nat → Value) (h : Hid (Blk w hb 98 32 f)) (hf : f 1 = .map none) : Calls Tryz.prog 75 #[ptr hb] w fun e w' => e = .returned (.int .i64 0) ∧ w' = w := by
  have e1 := h.out.cell 1 (by decide)
  rw [hf] at e1
  have hl : ∀ ty, (Builtin.len_ #[92] ty #[.map none]).run Tryz.prog w = .ok (.int .i64 0) w := fun ty => Maps.len_nil Tryz.underlying92 ty
  unfold ptr
  go_enter Tryz.func75, Tryz.ntmps75
  go_wp2_with fail
  go_ret
  exact ⟨rfl, rfl⟩
set_option maxHeartbeats 400000 in
theorem len_some (w : World) (hb m n : Nat) (M : DataW Nat) (f : Nat → Value) (h : Hid (Blk w hb 98 32 f)) (hf : f 1 = .map (some m)) (hown : Hid (w.ownsMap Tryz.prog 3 pE m n M)) : Calls Tryz.prog 75 #[ptr hb] w fun e w' => e = .returned (.int .i64 (Maps.size M)) ∧ w' = w := by
  have e1 := h.out.cell 1 (by decide)
  rw [hf] at e1
  have hl : ∀ ty, (Builtin.len_ #[92] ty #[.map (some m)]).run Tryz.prog w = .ok (.int .i64 (Maps.size M)) w := fun ty => hown.out.len Tryz.underlying92 ty
  unfold ptr
  go_enter Tryz.func75, Tryz.ntmps75
  go_wp2_with fail
  go_ret
  exact ⟨rfl, rfl⟩
theorem size_one (eb : Nat) : Maps.size (m0.put (.int .i64 (0 : Nat)) (.held eb)) = 1 := rfl
theorem One.len {w : World} {hb eb n d : Nat} {t : Int} (h : One w hb eb n d t) : Calls Tryz.prog 75 #[ptr hb] w fun e w' => e = .returned (.int .i64 1) ∧ w' = w := by
  obtain ⟨f, m, h1, h2, h3, h4⟩ := h.hp
  exact len_some w hb m 1 _ f h1 h2 h4

set_option maxHeartbeats 1000000 in
/-- Min of a heap that has a least entry -/
theorem min_at (w : World) (hb eb n d : Nat) (x t y : Int) (f g : Nat → Value) (h : Hid (Blk w hb 98 32 f)) (hf : f 31 = ptr eb) (he : Hid (Blk w eb 100 8 g)) (g0 : g 0 = .int .i64 x) (g1 : g 1 = .int .u64 n) (g2 : g 2 = .int .u64 d) (g3 : g 3 = .int .i64 t)
    (hy : (y == 0) = false) (HL : Hid (∀ w1, Below w.heap.size w w1 → Calls Tryz.prog 75 #[ptr hb] w1 fun e w' => e = .returned (.int .i64 y) ∧ w' = w1)) :
    Calls Tryz.prog 47 #[ptr hb] w fun e w' => e = .returned (.tuple #[.int .i64 x, ktup n d t, .int .i64 0]) ∧ Below w.heap.size w w' := by
  unfold ptr at HL hf ⊢
  go_enter Tryz.func47, Tryz.ntmps47
  go_upto_region 1 with fail
  have B0 : Hid (Below w.heap.size w (w.alloc (.cells #[.int .u64 0, .int .u64 0, .int .i64 0] 72))) := by unfold Hid; go_grown
  have G0 : Hid ((w.alloc (.cells #[.int .u64 0, .int .u64 0, .int .i64 0] 72)).heap[w.heap.size]? = some (.cells #[.int .u64 0, .int .u64 0, .int .i64 0] 72 (0, 0))) := new0
  generalize w.alloc (.cells #[.int .u64 0, .int .u64 0, .int .i64 0] 72) = W at *
  have H11 := HL.out W B0.out
  go_upto_region 3 with (go_at_call 75; refine H11.mono ?_; rintro e w1 ⟨rfl, rfl⟩)
  have b31 := (h.out.at (B0.out.block _ h.out.lt)).cell 31 (by decide)
  have E0 := he.out.at (B0.out.block _ he.out.lt)
  have b0 := E0.cell 0 (by decide)
  have b1 := E0.cell 1 (by decide)
  have b2 := E0.cell 2 (by decide)
  have b3 := E0.cell 3 (by decide)
  rw [hf] at b31
  rw [g0] at b0
  rw [g1] at b1
  rw [g2] at b2
  rw [g3] at b3
  obtain ⟨c0, c1, c2⟩ := c3 G0.out
  obtain ⟨f0, f1, f2⟩ := f3 G0.out
  clear E0
  go_region
  all_goals go_wp2_with fail
  all_goals refine bodyPost_ret (v := .tuple #[.int .i64 x, ktup n d t, .int .i64 0]) (by rw [results_tct rfl]; go_simp; rfl) rfl ?_
  all_goals exact ⟨rfl, by go_grown; exact B0.out⟩
theorem One.min {w : World} {hb eb n d : Nat} {t : Int} (h : One w hb eb n d t) : Calls Tryz.prog 47 #[ptr hb] w fun e w' => e = .returned (.tuple #[.int .i64 (0 : Nat), ktup n d t, .int .i64 0]) ∧ Below w.heap.size w w' := by
  obtain ⟨f, m, h1, h2, h3, h4⟩ := h.hp
  obtain ⟨g, k, g0, g1, g2, g3⟩ := h.en
  exact min_at w hb eb n d _ t 1 f g h1 h3 k g0 g1 g2 g3 rfl fun w1 b1 => len_some w1 hb m 1 _ f (h1.at (b1.block _ h1.lt)) h2 (keepMap h4 (b1.block _ h4.lt))

end Go.Proofs.YtcgaekaollhmpaaGreat
