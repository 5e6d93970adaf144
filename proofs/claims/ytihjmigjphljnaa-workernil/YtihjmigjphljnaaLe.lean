/-
  WorkerNil's law.
-/
import Derived.Test.YtihjmigjphljnaaTc
namespace Go.Proofs.Ytihjmigjphljnaa
open Go.RowKit Go.Maps Go.WideMaps
open Tk

set_option maxHeartbeats 8000000 in
set_option maxRecDepth 100000 in
theorem nil_law (s : ByteArray) (hs : s.size ≤ 281474976710656) (ep : Int) (v : V) (w : World) :
    Calls Try.prog 8 #[.string s, .int .i64 ep, .agg #[.int .i64 v.a, .int .i64 v.b, .int .i64 v.c, .int .i64 v.d]] w fun e w' => e = .returned (.bool true) ∧ Below w.heap.size w w' := by
  have HA : Hid (∀ W, Calls Try.prog 9 #[] W fun e w' => e = .returned (.bool true) ∧ Hid (Below W.heap.size W w')) := awake_any
  have N1 : Hid (∀ W, Calls Try.prog 18 #[.pointer none, .string s, .int .i64 ep, .agg #[.int .i64 v.a, .int .i64 v.b, .int .i64 v.c, .int .i64 v.d], .int .i64 0] W fun e w' => e = .returned (.tuple #[.bool false, .int .i64 10]) ∧ Hid (Below W.heap.size W w')) := fun W => reg_none W s ep 0 v
  have N2 : Hid (∀ W, Calls Try.prog 21 #[.pointer none, .string s] W fun e w' => e = .returned (.tuple #[.agg #[.string ⟨#[]⟩, .int .i64 0, .int .i64 0, .int .i64 0, .int .i64 0, .int .i64 0, .int .i64 0, .bool false], .int .i64 3]) ∧ Hid (Below W.heap.size W w')) := fun W => get_none W s
  have N3 : Hid (∀ W, Calls Try.prog 19 #[.pointer none, .string s, .int .i64 ep, .int .i64 0] W fun e w' => e = .returned (.int .i64 3) ∧ Hid (Below W.heap.size W w')) := fun W => beat_nil W s ep 0
  have N4 : Hid (∀ W, Calls Try.prog 20 #[.pointer none, .int .i64 0] W fun e w' => e = .returned (.slice none 0 0) ∧ Hid (Below W.heap.size W w')) := fun W => (exp_nil W 0).mono fun e w' ⟨h1, h2⟩ => ⟨h1, by rw [h2]; exact Below.refl _ _⟩
  have N5 : Hid (∀ W, Calls Try.prog 13 #[.pointer none] W fun e w' => e = .returned (.slice none 0 0) ∧ Hid (Below W.heap.size W w')) := fun W => (all_nil W).mono fun e w' ⟨h1, h2⟩ => ⟨h1, by rw [h2]; exact Below.refl _ _⟩
  have N6 : Hid (∀ W, Calls Try.prog 14 #[.pointer none] W fun e w' => ∃ q c', e = .returned (.slice q 0 c') ∧ Hid (Below W.heap.size W w')) := fun W => by
    refine (live_nil W).mono ?_
    rintro e w' ⟨q, m, c', he, hh⟩
    obtain ⟨rfl, -, hb, -⟩ := hh.out
    exact ⟨q, c', he, hb⟩
  have N7 : Hid (∀ W, Calls Try.prog 16 #[.pointer none] W fun e w' => e = .returned (.agg #[.int .i64 0, .int .i64 0, .int .i64 0, .int .i64 0]) ∧ Hid (Below W.heap.size W w')) := fun W => whole_nil W
  have q1 : ∀ w, (Op.equalIn 10000 32 (.agg #[.int .i64 0, .int .i64 0, .int .i64 0, .int .i64 0]) (.agg #[.int .i64 0, .int .i64 0, .int .i64 0, .int .i64 0])).run Try.prog w = .ok true w := fun w => (eq4 0 0 0 0 0 0 0 0 w).trans (by simp)
  have HV : Hid (Below w.heap.size w (w.alloc (vB v)) ∧ ∀ k o, XS NX w.heap.size (vB v) k = some o → (w.alloc (vB v)).heap[k]? = some o) := ⟨(Below.refl _ w).alloc (Nat.le_refl _) _, kept_add (kept_none w) ((Below.refl _ w).alloc (Nat.le_refl _) _) new0⟩
  have HC : Hid (∀ W : World, (∀ k o, XS NX w.heap.size (vB v) k = some o → W.heap[k]? = some o) → W.cell? ⟨w.heap.size, 0, none⟩ = some (.int .i64 v.a) ∧ W.cell? ⟨w.heap.size, 1, none⟩ = some (.int .i64 v.b) ∧ W.cell? ⟨w.heap.size, 2, none⟩ = some (.int .i64 v.c) ∧ W.cell? ⟨w.heap.size, 3, none⟩ = some (.int .i64 v.d)) := fun W h => by
    obtain ⟨d0, d1, d2, d3, -⟩ := cells4 (h w.heap.size (vB v) (if_pos rfl))
    exact ⟨d0, d1, d2, d3⟩
  have HS : Hid (∀ W pb rb, P2 w W (XS NX w.heap.size (vB v)) pb rb → Calls Try.prog 11 #[.pointer (some ⟨pb, 0, none⟩), .pointer (some ⟨rb, 0, none⟩), .agg #[.int .i64 1, .string s, .int .i64 ep, .int .i64 0, .int .i64 v.a, .int .i64 v.b, .int .i64 v.c, .int .i64 v.d]] W fun e w' => e = .returned (.bool true) ∧ Hid (P2 w w' (XS NX w.heap.size (vB v)) pb rb)) := fun W pb rb h => step_any h ⟨1, s, ep, 0, v⟩ hs
  go_enter Try.func8, Try.ntmps8
  go_upto_region 1 with fail
  unfold vB at HV HC HS
  generalize w.alloc (.cells #[.int .i64 v.a, .int .i64 v.b, .int .i64 v.c, .int .i64 v.d] 32) = W0 at *
  have SB : Hid (∀ W W' : World, (Below w.heap.size w W ∧ ∀ k o, XS NX w.heap.size (.cells #[.int .i64 v.a, .int .i64 v.b, .int .i64 v.c, .int .i64 v.d] 32 (0, 0)) k = some o → W.heap[k]? = some o) → Below W.heap.size W W' → (Below w.heap.size w W' ∧ ∀ k o, XS NX w.heap.size (.cells #[.int .i64 v.a, .int .i64 v.b, .int .i64 v.c, .int .i64 v.d] 32 (0, 0)) k = some o → W'.heap[k]? = some o)) := fun W W' h b => ⟨below_from h.1 b h.1.size, kept_below h.2 b⟩
  go_upto_region 4 with (go_at_call 9; refine (HA.out _).mono ?_; rintro e w1 ⟨rfl, b1⟩)
  have V1 : Hid _ := SB.out _ _ HV.out b1.out
  clear HA b1 HV
  obtain ⟨d0, d1, d2, d3⟩ := HC.out _ V1.out.2
  go_upto_region 5 with (go_at_call 18; refine (N1.out _).mono ?_; rintro e w2 ⟨rfl, b2⟩)
  have V2 : Hid _ := SB.out _ _ V1.out b2.out
  clear d0 d1 d2 d3 V1 b2 N1
  go_upto_region 6 with (go_at_call 21; refine (N2.out _).mono ?_; rintro e w3 ⟨rfl, b3⟩)
  have V3 : Hid _ := SB.out _ _ V2.out (b3.out.alloc b3.out.size (.cells #[.string ⟨#[]⟩, .int .i64 0, .int .i64 0, .int .i64 0, .int .i64 0, .int .i64 0, .int .i64 0, .bool false] 46 (0, 0)))
  clear V2 b3 N2
  generalize w3.alloc (.cells #[.string ⟨#[]⟩, .int .i64 0, .int .i64 0, .int .i64 0, .int .i64 0, .int .i64 0, .int .i64 0, .bool false] 46) = W3 at *
  go_upto_region 8 with (first
    | (go_at_call 19; refine (N3.out _).mono ?_; rintro e w4 ⟨rfl, b4⟩; have V4 : Hid _ := SB.out _ _ V3.out b4.out; clear V3 b4)
    | (go_at_call 20; refine (N4.out _).mono ?_; rintro e w5 ⟨rfl, b5⟩; have V5 : Hid _ := SB.out _ _ V4.out b5.out; clear V4 b5)
    | (go_at_call 13; refine (N5.out _).mono ?_; rintro e w6 ⟨rfl, b6⟩; have V6 : Hid _ := SB.out _ _ V5.out b6.out; clear V5 b6)
    | (go_at_call 14; refine (N6.out _).mono ?_; rintro e w7 ⟨q7, c7, rfl, b7⟩; have V7 : Hid _ := SB.out _ _ V6.out b7.out; clear V6 b7)
    | (go_at_call 16; refine (N7.out _).mono ?_; rintro e w8 ⟨rfl, b8⟩; have V8 : Hid _ := SB.out _ _ V7.out b8.out; clear V7 b8))
  clear N3 N4 N5 N6 N7
  go_upto_region 10 with fail
  have HP : Hid (P2 w ((w8.alloc (.cells #[.map none, .slice none 0 0, .map none] 63 (0, 0))).alloc (.cells #[.slice none 0 0] 29 (0, 0))) (XS NX w.heap.size (.cells #[.int .i64 v.a, .int .i64 v.b, .int .i64 v.c, .int .i64 v.d] 32 (0, 0))) w8.heap.size (w8.heap.size + 1)) := ⟨[], l2_new V8.out.1 V8.out.2⟩
  clear V8 SB
  generalize (w8.alloc (.cells #[.map none, .slice none 0 0, .map none] 63)).alloc (.cells #[.slice none 0 0] 29) = W9 at *
  generalize w8.heap.size + 1 = rb at *
  generalize w8.heap.size = pb at *
  have HP2 : Hid _ := HP.out.below (Below.refl _ W9).drew
  obtain ⟨d0, d1, d2, d3⟩ := HC.out _ HP.out.kept
  clear HP HC
  go_region_with (first
    | (go_at_call 11; refine (HS.out _ _ _ HP2.out).mono ?_; rintro e wA ⟨rfl, hA⟩; obtain ⟨nn, qq, cc, eA, KA⟩ := p2_all hA.out)
    | (go_at_call 13; refine KA.out.mono ?_; rintro e wB ⟨pB, cB, rfl, hB⟩; have eB := cell_below eA hB.out.1.1)
    | (go_at_call 12; refine (hB.out.2 _ (Below.refl _ _)).mono ?_; rintro e wC ⟨rfl, hC⟩))
  all_goals go_wp2_with fail
  all_goals go_ret
  all_goals exact ⟨rfl, hC.out.bel⟩
end Go.Proofs.Ytihjmigjphljnaa
