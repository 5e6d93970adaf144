/-
  The walk of VectorSums.
-/
import Derived.Test.YtcndmhanabgamaaLawR
import Derived.Test.YtcndmhanabgamaaWalkT
namespace Go.Proofs.Ytcndmhanabgamaa
open Go.RowKit

set_option maxHeartbeats 4000000 in
theorem sums_some (l : List V) (ad : Addr) (n c : Nat) (x y z u k : Int) (w : World) (hl : Hid (l.length = n)) (hb : n * 32 ≤ 140737488355328) (hr : Hid (Lies w (some ad) l))
    (H20 : Hid (∀ (q : Option Addr) (c : Nat) (w : World), (n = 0 ∨ ∃ g, q = some ⟨g, 0, none⟩ ∧ Row w g 0 l) → Calls Try.prog 20 #[.slice q n c] w fun e w' => e = .returned (.tuple #[.agg #[.int .i64 x, .int .i64 y, .int .i64 z, .int .i64 u], .int .i64 k]) ∧ Below w.heap.size w w'))
    (H21 : Hid (∀ (w : World), Lies w (some ad) l → Calls Try.prog 21 #[.slice (some ad) n c] w fun e w' => e = .returned (.tuple #[.agg #[.int .i64 x, .int .i64 y, .int .i64 z, .int .i64 u], .int .i64 k]) ∧ Below w.heap.size w w')) :
    Calls Try.prog 5 #[.slice (some ad) n c] w fun r w' => r = .returned (.bool true) ∧ Below w.heap.size w w' := by
  have E1 := eq4_same x y z u
  go_enter Try.func5, Try.ntmps5
  go_wp2_with (first
    | (go_at_call 9; refine (awake_any _).mono ?_; rintro e w1 ⟨rfl, b1⟩; have y1 : Hid (Below w.heap.size w w1) := b1; clear b1)
    | (at_builtin; refine append_vecs rfl _ _ rfl rfl ad c n l hl.out rfl (hr.out.keep y1.out (Nat.le_refl _)) hb ?_; intro q c' w2 hq b2; have hq' : Hid (n = 0 ∨ ∃ g, q = some ⟨g, 0, none⟩ ∧ Row w2 g 0 l) := hq; clear hq; have y2 : Hid (Below w.heap.size w w2) := below_from y1.out b2 y1.out.size; clear b2 y1)
    | (go_at_call 20; refine (H20.out _ _ _ hq'.out).mono ?_; rintro e w3 ⟨rfl, b3⟩; have y3 : Hid (Below w.heap.size w w3) := below_from y2.out b3 y2.out.size; clear b3 y2)
    | (go_at_call 21; refine (H21.out _ (hr.out.keep (y3.out.alloc y3.out.size _) (Nat.le_refl _))).mono ?_; rintro e w4 ⟨rfl, b4⟩; have s4 := at_below b4 (Nat.le_refl _) new0; obtain ⟨sa0, sa1, sa2, sa3, sa4, sa5, sa6, sa7, sa8, sa9⟩ := cells4 s4; have y4 : Hid (Below w.heap.size w w4) := below_from (y3.out.alloc y3.out.size _) b4 (by have := y3.out.size; simp; omega); clear b4 y3))
  go_ret
  exact ⟨rfl, y4.out.alloc y4.out.size _⟩

set_option maxHeartbeats 4000000 in
theorem sums_none (w : World)
    (H20 : Hid (∀ (w : World), Calls Try.prog 20 #[.slice none 0 0] w fun e w' => e = .returned (.tuple #[.agg #[.int .i64 0, .int .i64 0, .int .i64 0, .int .i64 0], .int .i64 0]) ∧ Below w.heap.size w w'))
    (H21 : Hid (∀ (w : World), Calls Try.prog 21 #[.slice none 0 0] w fun e w' => e = .returned (.tuple #[.agg #[.int .i64 0, .int .i64 0, .int .i64 0, .int .i64 0], .int .i64 0]) ∧ Below w.heap.size w w')) :
    Calls Try.prog 5 #[.slice none 0 0] w fun r w' => r = .returned (.bool true) ∧ Below w.heap.size w w' := by
  have E1 := eq4_same 0 0 0 0
  obtain ⟨i0, hi, hz0, hz1, hz2⟩ := info_parts info23
  go_enter Try.func5, Try.ntmps5
  go_wp2_with (first
    | (go_at_call 9; refine (awake_any _).mono ?_; rintro e w1 ⟨rfl, b1⟩; have y1 : Hid (Below w.heap.size w w1) := b1; clear b1)
    | (at_builtin; refine wpList_append_own_none rfl _ _ 31 rfl 0 23 i0 4 Try.underlying31 hi (.slice none 0 0) 0 [] rfl (World.ownsRow_nil _ _ _ _) rfl ?_)
    | (go_at_call 20; refine (H20.out _).mono ?_; rintro e w3 ⟨rfl, b3⟩; have y3 : Hid (Below w.heap.size w w3) := below_from y1.out b3 y1.out.size; clear b3 y1)
    | (go_at_call 21; refine (H21.out _).mono ?_; rintro e w4 ⟨rfl, b4⟩; have s4 := at_below b4 (Nat.le_refl _) new0; obtain ⟨sa0, sa1, sa2, sa3, sa4, sa5, sa6, sa7, sa8, sa9⟩ := cells4 s4; have y4 : Hid (Below w.heap.size w w4) := below_from (y3.out.alloc y3.out.size _) b4 (by have := y3.out.size; simp; omega); clear b4 y3))
  go_ret
  exact ⟨rfl, y4.out.alloc y4.out.size _⟩

theorem law_sums_some (l : List V) (ad : Addr) (c : Nat) (w : World) (hb : l.length * 32 ≤ 140737488355328) (hr : Lies w (some ad) l) :
    Calls Try.prog 5 #[.slice (some ad) l.length c] w fun r w' => r = .returned (.bool true) ∧ Below w.heap.size w w' := by
  refine sums_some l ad l.length c _ _ _ _ _ w rfl hb hr (fun q c w h => sum_gen l q c w (by omega) ?_) (fun w h => rsum_gen l (some ad) c w (by omega) h)
  rcases h with h | ⟨g, e, h⟩
  · exact .inl (List.eq_nil_of_length_eq_zero h)
  · exact .inr ⟨g, 0, e, h⟩

theorem law_sums_none (w : World) : Calls Try.prog 5 #[.slice none 0 0] w fun r w' => r = .returned (.bool true) ∧ Below w.heap.size w w' :=
  sums_none w (fun w => sum_nil none 0 w) (fun w => rsum_nil none 0 w)

end Go.Proofs.Ytcndmhanabgamaa
