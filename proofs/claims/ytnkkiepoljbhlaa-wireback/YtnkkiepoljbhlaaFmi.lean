/-
  The parts of formedJob: untold, formedParents, formedMembers of vectors.
-/
import Derived.Test.YtnkkiepoljbhlaaFma
import Derived.Test.YtnkkiepoljbhlaaSjb
namespace Go.Proofs.Ytnkkiepoljbhlaa
open Go.RowKit

/-- a job of which nothing is told yet -/
def unt (st at' sr : Int) (n d : Nat) : Bool := decide (st = 0 ∧ at' = 0 ∧ sr = 0 ∧ n = 0 ∧ d = 0)
set_option maxHeartbeats 1000000 in
set_option maxRecDepth 100000 in
theorem untold_any (id pr rt st at' sr : Int) (tn : ByteArray) (pa tk : SL) (na da : Option Addr) (n nc d dc : Nat) (w : World) :
    Calls Try.prog 69 #[.agg #[.int .i64 id, .string tn, .int .i64 pr, .int .i64 rt, .slice pa.a pa.n pa.c, .slice tk.a tk.n tk.c, .int .i64 st, .int .i64 at', .slice na n nc, .int .i64 sr, .slice da d dc]] w fun e w' => e = .returned (.bool (unt st at' sr n d)) ∧ Below w.heap.size w w' := by
  go_enter Try.func69, Try.ntmps69
  go_upto_region 1 with fail
  have P1 : Hid _ := new0 (w := w) (o := .cells #[.int .i64 id, .string tn, .int .i64 pr, .int .i64 rt, .slice pa.a pa.n pa.c, .slice tk.a tk.n tk.c, .int .i64 st, .int .i64 at', .slice na n nc, .int .i64 sr, .slice da d dc] 30)
  have y1 : Hid (Below w.heap.size w (w.alloc (.cells #[.int .i64 id, .string tn, .int .i64 pr, .int .i64 rt, .slice pa.a pa.n pa.c, .slice tk.a tk.n tk.c, .int .i64 st, .int .i64 at', .slice na n nc, .int .i64 sr, .slice da d dc] 30))) := (Below.refl _ w).alloc (Nat.le_refl _) _
  generalize w.alloc (.cells #[.int .i64 id, .string tn, .int .i64 pr, .int .i64 rt, .slice pa.a pa.n pa.c, .slice tk.a tk.n tk.c, .int .i64 st, .int .i64 at', .slice na n nc, .int .i64 sr, .slice da d dc] 30) = W at *
  obtain ⟨e0, e1, e2, e3, e4, e5, e6, e7, e8, e9, e10⟩ := c11a P1.out
  by_cases h1 : st = 0
  · by_cases h2 : at' = 0
    · by_cases h3 : sr = 0
      · by_cases h4 : n = 0
        · by_cases h5 : d = 0
          · have HW : Hid (unt st at' sr n d = true) := by unfold Hid unt; simp [*]
            subst h1 h2 h3 h4 h5
            go_wp2_with fail
            go_ret
            exact ⟨ret_b HW.out.symm, y1.out⟩
          · have HW : Hid (unt st at' sr n d = false) := by unfold Hid unt; simp [*]
            have g : ((d : Int) == 0) = false := by simp; omega
            subst h1 h2 h3 h4
            go_wp2_with fail
            go_ret
            exact ⟨ret_b HW.out.symm, y1.out⟩
        · have HW : Hid (unt st at' sr n d = false) := by unfold Hid unt; simp [*]
          have g : ((n : Int) == 0) = false := by simp; omega
          subst h1 h2 h3
          go_wp2_with fail
          go_ret
          exact ⟨ret_b HW.out.symm, y1.out⟩
      · have HW : Hid (unt st at' sr n d = false) := by unfold Hid unt; simp [*]
        have g : (sr == 0) = false := by simpa using h3
        subst h1 h2
        go_wp2_with fail
        go_ret
        exact ⟨ret_b HW.out.symm, y1.out⟩
    · have HW : Hid (unt st at' sr n d = false) := by unfold Hid unt; simp [*]
      have g : (at' == 0) = false := by simpa using h2
      subst h1
      go_wp2_with fail
      go_ret
      exact ⟨ret_b HW.out.symm, y1.out⟩
  · have HW : Hid (unt st at' sr n d = false) := by unfold Hid unt; simp [*]
    have g : (st == 0) = false := by simpa using h1
    go_wp2_with fail
    go_ret
    exact ⟨ret_b HW.out.symm, y1.out⟩

end Go.Proofs.Ytnkkiepoljbhlaa
