/-
  Sums of any vectors.
-/
import Derived.Test.YtclhnclhocekkaaVd
namespace Go.Proofs.Ytclhnclhocekkaa
open Go.RowKit

set_option maxHeartbeats 400000 in
theorem rsum_nil (q : Option Addr) (c : Nat) (w : World) :
    Calls Try.prog 19 #[.slice q 0 c] w fun e w' => e = ansV (V.nil, 0) ∧ Below w.heap.size w w' := by
  go_enter Try.func19, Try.ntmps19
  go_wp2_with fail
  go_rounds 1
  go_rounds 1
  go_returns
  exact ⟨rfl, by go_grown⟩
set_option maxHeartbeats 400000 in
theorem sum_nil (q : Option Addr) (c : Nat) (w : World) :
    Calls Try.prog 45 #[.slice q 0 c] w fun e w' => e = ansV (V.nil, 0) ∧ Below w.heap.size w w' := by
  have HA : Hid (∀ w, Calls Try.prog 41 #[.slice q 0 c] w fun e w' => e = .returned (.bool true) ∧ Below w.heap.size w w') := fun w => allFormed_nil q c w
  go_enter Try.func45, Try.ntmps45
  go_wp2_with (go_at_call 41; refine (HA.out _).mono ?_; rintro e w1 ⟨rfl, b1⟩; have z1 := at_below b1 (Nat.le_refl _) new0; obtain ⟨r0, r1, r2, r3, rf0, rf1, rf2, rf3, rs, rn⟩ := cells4 z1; have y1 : Hid (Below w.heap.size w w1) := below_from ((Below.refl _ w).alloc (Nat.le_refl _) _) b1 (by simp))
  go_rounds 1
  have r := at_alloc (o := .cells #[.int .i64 0, .int .i64 0, .int .i64 0, .int .i64 0] 41) (at_set4 (v0 := .int .i64 0) (v1 := .int .i64 0) (v2 := .int .i64 0) (v3 := .int .i64 0) z1)
  obtain ⟨c0, c1, c2, c3, -⟩ := cells4 r
  refine bodyPost_ret (by simp [results, Try.results45, go_sem, c0, c1, c2, c3]; rfl) rfl ?_
  have y2 := (((y1.out.setCell (p := ⟨w.heap.size, 0, none⟩) (Nat.le_refl _) (.int .i64 0)).setCell (p := ⟨w.heap.size, 1, none⟩) (Nat.le_refl _) (.int .i64 0)).setCell (p := ⟨w.heap.size, 2, none⟩) (Nat.le_refl _) (.int .i64 0)).setCell (p := ⟨w.heap.size, 3, none⟩) (Nat.le_refl _) (.int .i64 0)
  exact ⟨rfl, y2.alloc y2.size _⟩
/-- a slice of vectors: none of them, or they lie there -/
def Lies (w : World) (q : Option Addr) (l : List V) : Prop := l = [] ∨ ∃ g o, q = some ⟨g, o, none⟩ ∧ VRow w g o l
theorem Lies.keep {w w1 : World} {q : Option Addr} {B : Nat} {l : List V} (b : Below B w w1) (hB : w.heap.size ≤ B) (h : Lies w q l) : Lies w1 q l := by
  rcases h with h | ⟨g, o, e, hr⟩
  · exact .inl h
  · exact .inr ⟨g, o, e, hr.keep b hB⟩
theorem sum_gen (l : List V) (q : Option Addr) (c : Nat) (w : World) (hn : l.length < 1152921504606846976) (h : Lies w q l) :
    Calls Try.prog 45 #[.slice q l.length c] w fun e w' => e = ansV (sumR l) ∧ Below w.heap.size w w' := by
  rcases h with rfl | ⟨g, o, rfl, hr⟩
  · exact sum_nil q c w
  · exact sum_any l g o c w hn hr
theorem rsum_gen (l : List V) (q : Option Addr) (c : Nat) (w : World) (hn : l.length < 1152921504606846976) (h : Lies w q l) :
    Calls Try.prog 19 #[.slice q l.length c] w fun e w' => e = ansV (sumR l) ∧ Below w.heap.size w w' := by
  rcases h with rfl | ⟨g, o, rfl, hr⟩
  · exact rsum_nil q c w
  · exact rsum_any l g o c w hn hr

end Go.Proofs.Ytclhnclhocekkaa
