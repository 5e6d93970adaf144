/-
  That the program is awake; FibNil's law.
-/
import Derived.Test.YtmcmldlnmmbbgaaNe
namespace Go.Proofs.Ytmcmldlnmmbbgaa
open Go.RowKit Go.Maps

/-- heap and entry, kept -/
theorem One.keep {w w1 : World} {hb eb n d : Nat} {t : Int} (h : One w hb eb n d t) (b : Below w.heap.size w w1) : One w1 hb eb n d t := by
  obtain ⟨f, m, h1, h2, h3, h4⟩ := h.hp
  obtain ⟨g, k, g0, g1, g2, g3⟩ := h.en
  exact ⟨⟨f, m, h1.at (b.block _ h1.lt), h2, h3, keepMap h4 (b.block _ h4.lt)⟩, ⟨g, k.at (b.block _ k.lt), g0, g1, g2, g3⟩⟩

set_option maxHeartbeats 1000000 in
theorem awake_any (w : World) : Calls Try.prog 8 #[] w fun e w' => e = .returned (.bool true) ∧ Below w.heap.size w w' := by
  have H9 : Hid (∀ w, Calls Try.prog 9 #[] w fun e w' => e = .returned (.pointer (some ⟨w.heap.size, 0, none⟩)) ∧ w' = w.alloc (.cells zeroH 70)) := fun w => new_at w
  go_enter Try.func8, Try.ntmps8
  go_upto_region 2 with (go_at_call 9; refine (H9.out _).mono ?_; rintro e w1 ⟨rfl, rfl⟩)
  have B0 : Hid (Blk (w.alloc (.cells zeroH 70)) w.heap.size 70 32 zH) := new_blk w
  have L0 : Hid (Below w.heap.size w (w.alloc (.cells zeroH 70))) := by unfold Hid; go_grown
  have S0 : Hid (w.heap.size < (w.alloc (.cells zeroH 70)).heap.size) := by unfold Hid; simp
  generalize w.alloc (.cells zeroH 70) = W at *
  go_upto_region 6 with fail
  have HB : Hid (Blk (W.alloc (.cells #[.int .u64 0, .int .u64 3, .int .i64 0] 37)) w.heap.size 70 32 zH) := blk_alloc B0.out _
  have HK : Hid ((W.alloc (.cells #[.int .u64 0, .int .u64 3, .int .i64 0] 37)).heap[W.heap.size]? = some (.cells #[.int .u64 0, .int .u64 3, .int .i64 0] 37 (0, 0))) := new0
  have HL : Hid (Below w.heap.size w (W.alloc (.cells #[.int .u64 0, .int .u64 3, .int .i64 0] 37))) := L0.out.alloc (Nat.le_of_lt S0.out) _
  generalize W.alloc (.cells #[.int .u64 0, .int .u64 3, .int .i64 0] 37) = V at *
  have HI : Hid (Calls Try.prog 14 #[.pointer (some ⟨w.heap.size, 0, none⟩), .agg #[.int .u64 0, .int .u64 3, .int .i64 0]] V fun e w' => e = .returned (.tuple #[.int .i64 0, .int .i64 0]) ∧ ∃ eb, Hid (One w' w.heap.size eb 0 3 0 ∧ Below w.heap.size w w')) := by
    refine (insert_zero V w.heap.size 0 3 0 HB.out (by decide)).mono ?_
    rintro e w' ⟨rfl, eb, _, h1, h2⟩
    exact ⟨rfl, eb, h1, HL.out.trans (h2.below (Nat.le_of_lt HB.out.lt) fun k hk e => by omega)⟩
  obtain ⟨c0, c1, c2⟩ := c3 HK.out
  clear HB HK HL L0 S0 B0 H9
  go_upto_region 7 with (go_at_call 14; refine HI.out.mono ?_; rintro e w2 ⟨rfl, eb, O⟩)
  clear c0 c1 c2
  have HM : Hid (Calls Try.prog 20 #[.pointer (some ⟨w.heap.size, 0, none⟩)] w2 fun e w' => e = .returned (.tuple #[.int .i64 0, .agg #[.int .u64 0, .int .u64 3, .int .i64 0], .int .i64 0]) ∧ Hid (One w' w.heap.size eb 0 3 0 ∧ Below w.heap.size w w')) := by
    refine (One.min O.out.1).mono ?_
    rintro e w' ⟨rfl, b⟩
    exact ⟨rfl, O.out.1.keep b, O.out.2.trans (b.mono O.out.2.size)⟩
  go_upto_region 8 with (go_at_call 20; refine HM.out.mono ?_; rintro e w3 ⟨rfl, O3⟩)
  have O4 : Hid (One (w3.alloc (.cells #[.int .u64 0, .int .u64 3, .int .i64 0] 37)) w.heap.size eb 0 3 0 ∧ Below w.heap.size w (w3.alloc (.cells #[.int .u64 0, .int .u64 3, .int .i64 0] 37))) := ⟨O3.out.1.keep (by go_grown), O3.out.2.alloc O3.out.2.size _⟩
  generalize w3.alloc (.cells #[.int .u64 0, .int .u64 3, .int .i64 0] 37) = W4 at *
  have H11 : Hid (Calls Try.prog 11 #[.pointer (some ⟨w.heap.size, 0, none⟩)] W4 fun e w' => e = .returned (.int .i64 1) ∧ w' = W4) := One.len O4.out.1
  go_wp2_with (go_at_call 11; refine H11.out.mono ?_; rintro e w5 ⟨rfl, rfl⟩)
  go_ret
  exact ⟨rfl, O4.out.2⟩
end Go.Proofs.Ytmcmldlnmmbbgaa
