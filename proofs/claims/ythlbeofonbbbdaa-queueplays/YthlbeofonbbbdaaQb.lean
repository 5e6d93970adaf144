/-
  A waiter's key; two keys compared; earlier.
-/
import Derived.Test.YthlbeofonbbbdaaQa
namespace Go.Proofs.Ythlbeofonbbbdaa
open Go.RowKit Go.Maps

/-- grown alone, and no fewer draws -/
def Gw (w w' : World) : Prop := Below w.heap.size w w' ∧ w.drawn ≤ w'.drawn
theorem Gw.refl (w : World) : Gw w w := ⟨Below.refl _ _, Nat.le_refl _⟩
theorem Gw.trans {a b c : World} (h : Gw a b) (k : Gw b c) : Gw a c := ⟨h.1.trans (k.1.mono h.1.size), Nat.le_trans h.2 k.2⟩
set_option maxHeartbeats 1000000 in
theorem key_raw (w : World) (b : Nat) (j p p' : Int) (hd t : Value) (hB : Hid (w.heap[b]? = some (.cells #[.int .i64 j, t, .int .i64 p, hd] 76 (0, 0)))) (hp : IntKind.i64.wrap (-p) = p') :
    Calls Try.prog 41 #[.pointer (some ⟨b, 0, none⟩)] w fun e w' => e = .returned (.agg #[.int .i64 p', .int .i64 j, .int .i64 0]) ∧ Gw w w' := by
  have hlt : b < w.heap.size := (Array.getElem?_eq_some_iff.1 hB.out).1
  obtain ⟨q0, q1, q2, q3⟩ := c4 hB.out
  go_enter Try.func41, Try.ntmps41
  go_wp2_with fail
  go_region
  all_goals go_wp2_with fail
  all_goals (refine bodyPost_ret (by simp [results, Try.results41, go_sem]; rfl) rfl ?_)
  all_goals refine ⟨rfl, ?_, ?_⟩
  all_goals first | go_grown | (show w.drawn ≤ _; simp [World.drew, World.alloc, World.setCell]) | trace_state
def cm3 (k k' : K) : Int := if cmI k.a k'.a ≠ 0 then cmI k.a k'.a else if cmI k.b k'.b ≠ 0 then cmI k.b k'.b else cmI k.c k'.c
set_option maxHeartbeats 1000000 in
theorem scmp_any (k k' : K) (p q : Nat) (w : World)
    (a0 : w.cell? ⟨p, 0, none⟩ = some (.int .i64 k.a)) (a1 : w.cell? ⟨p, 1, none⟩ = some (.int .i64 k.b)) (a2 : w.cell? ⟨p, 2, none⟩ = some (.int .i64 k.c))
    (b0 : w.cell? ⟨q, 0, none⟩ = some (.int .i64 k'.a)) (b1 : w.cell? ⟨q, 1, none⟩ = some (.int .i64 k'.b)) (b2 : w.cell? ⟨q, 2, none⟩ = some (.int .i64 k'.c)) :
    Calls Try.prog 59 #[.slice (some ⟨p, 0, none⟩) 3 3, .slice (some ⟨q, 0, none⟩) 3 3] w fun x w' => x = .returned (.int .i64 (cm3 k k')) ∧ w' = w := by
  have HR : Hid (cm3 k k' = if cmI k.a k'.a ≠ 0 then cmI k.a k'.a else if cmI k.b k'.b ≠ 0 then cmI k.b k'.b else cmI k.c k'.c) := rfl
  generalize cm3 k k' = r at *
  have HC : Hid (∀ (x y : Int) (w : World), Calls Try.prog 83 #[.int .i64 x, .int .i64 y] w fun e w' => e = .returned (.int .i64 (cmI x y)) ∧ w' = w) := fun x y w => cmp_any x y w
  go_enter Try.func59, Try.ntmps59
  go_wp2_with fail
  refine wp_loop_rounds 4 ?_
  repeat any_goals (rw [rounds_succ]; go_wp2_with (go_at_call 83; refine (HC.out _ _ _).mono ?_; rintro e w' ⟨rfl, rfl⟩))
  all_goals (go_returns; refine ⟨congrArg (fun b => Ending.returned (Value.int .i64 b)) ?_, rfl⟩)
  all_goals (rw [HR.out]; clear HR HC; (repeat' split) <;> simp_all)
end Go.Proofs.Ythlbeofonbbbdaa
