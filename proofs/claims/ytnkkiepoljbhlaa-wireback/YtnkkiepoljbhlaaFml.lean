/-
  formedJob out of its parts.
-/
import Derived.Test.YtnkkiepoljbhlaaFmk
namespace Go.Proofs.Ytnkkiepoljbhlaa
open Go.RowKit

set_option maxHeartbeats 2000000 in
set_option maxRecDepth 100000 in
theorem formedJob_at (id pr rt st at' sr : Int) (tn : ByteArray) (pa tk nd dn : SL) (x1 x2 x3 x4 x5 x6 x7 : Bool) (w : World)
    (H1 : Hid (∀ W, Below w.heap.size w W → Calls Try.prog 44 #[.int .i64 id] W fun e w' => e = .returned (.bool x1) ∧ Below W.heap.size W w'))
    (H2 : Hid (∀ W, Below w.heap.size w W → Calls Try.prog 40 #[.string tn] W fun e w' => e = .returned (.bool x2) ∧ Below W.heap.size W w'))
    (H3 : Hid (∀ W, Below w.heap.size w W → Calls Try.prog 41 #[.int .i64 pr, .int .i64 0, .int .i64 100] W fun e w' => e = .returned (.bool x3) ∧ Below W.heap.size W w'))
    (H4 : Hid (∀ W, Below w.heap.size w W → Calls Try.prog 41 #[.int .i64 rt, .int .i64 1, .int .i64 1000] W fun e w' => e = .returned (.bool x4) ∧ Below W.heap.size W w'))
    (H5 : Hid (∀ W, Below w.heap.size w W → Calls Try.prog 67 #[.agg #[.int .i64 id, .string tn, .int .i64 pr, .int .i64 rt, .slice pa.a pa.n pa.c, .slice tk.a tk.n tk.c, .int .i64 st, .int .i64 at', .slice nd.a nd.n nd.c, .int .i64 sr, .slice dn.a dn.n dn.c]] W fun e w' => e = .returned (.bool x5) ∧ Below W.heap.size W w'))
    (H6 : Hid (∀ W, Below w.heap.size w W → Calls Try.prog 68 #[.slice tk.a tk.n tk.c, .func (.func 42) #[] #[]] W fun e w' => e = .returned (.bool x6) ∧ Below W.heap.size W w'))
    (H7 : Hid (∀ W, Below w.heap.size w W → Calls Try.prog 69 #[.agg #[.int .i64 id, .string tn, .int .i64 pr, .int .i64 rt, .slice pa.a pa.n pa.c, .slice tk.a tk.n tk.c, .int .i64 st, .int .i64 at', .slice nd.a nd.n nd.c, .int .i64 sr, .slice dn.a dn.n dn.c]] W fun e w' => e = .returned (.bool x7) ∧ Below W.heap.size W w')) :
    Calls Try.prog 43 #[.agg #[.int .i64 id, .string tn, .int .i64 pr, .int .i64 rt, .slice pa.a pa.n pa.c, .slice tk.a tk.n tk.c, .int .i64 st, .int .i64 at', .slice nd.a nd.n nd.c, .int .i64 sr, .slice dn.a dn.n dn.c]] w fun e w' => e = .returned (.bool (x1 && x2 && x3 && x4 && x5 && x6 && x7)) ∧ Below w.heap.size w w' := by
  go_enter Try.func43, Try.ntmps43
  go_upto_region 1 with fail
  have P1 : Hid _ := new0 (w := w) (o := .cells #[.int .i64 id, .string tn, .int .i64 pr, .int .i64 rt, .slice pa.a pa.n pa.c, .slice tk.a tk.n tk.c, .int .i64 st, .int .i64 at', .slice nd.a nd.n nd.c, .int .i64 sr, .slice dn.a dn.n dn.c] 30)
  have y1 : Hid (Below w.heap.size w (w.alloc (.cells #[.int .i64 id, .string tn, .int .i64 pr, .int .i64 rt, .slice pa.a pa.n pa.c, .slice tk.a tk.n tk.c, .int .i64 st, .int .i64 at', .slice nd.a nd.n nd.c, .int .i64 sr, .slice dn.a dn.n dn.c] 30))) := (Below.refl _ w).alloc (Nat.le_refl _) _
  generalize w.alloc (.cells #[.int .i64 id, .string tn, .int .i64 pr, .int .i64 rt, .slice pa.a pa.n pa.c, .slice tk.a tk.n tk.c, .int .i64 st, .int .i64 at', .slice nd.a nd.n nd.c, .int .i64 sr, .slice dn.a dn.n dn.c] 30) = W at *
  obtain ⟨e0, e1, e2, e3, e4, e5, e6, e7, e8, e9, e10⟩ := c11a P1.out
  go_wp2_with (go_at_call 44; refine (H1.out _ y1.out).mono ?_)
  rintro e w1 ⟨rfl, b1⟩
  have P2 : Hid _ := at_below b1 (Nat.le_refl _) P1.out
  have y2 : Hid _ := below_from y1.out b1 y1.out.size
  clear b1 e0 e1 e2 e3 e4 e5 e6 e7 e8 e9 e10
  obtain ⟨e0, e1, e2, e3, e4, e5, e6, e7, e8, e9, e10⟩ := c11a P2.out
  cases x1 with
  | false =>
    go_wp2_with fail
    go_ret
    exact ⟨rfl, y2.out⟩
  | true =>
    go_wp2_with (go_at_call 40; refine (H2.out _ y2.out).mono ?_)
    rintro e w2 ⟨rfl, b2⟩
    have P3 : Hid _ := at_below b2 (Nat.le_refl _) P2.out
    have y3 : Hid _ := below_from y2.out b2 y2.out.size
    clear b2 e0 e1 e2 e3 e4 e5 e6 e7 e8 e9 e10
    obtain ⟨e0, e1, e2, e3, e4, e5, e6, e7, e8, e9, e10⟩ := c11a P3.out
    cases x2 with
    | false =>
      go_wp2_with fail
      go_ret
      exact ⟨rfl, y3.out⟩
    | true =>
      go_wp2_with (go_at_call 41; refine (H3.out _ y3.out).mono ?_)
      rintro e w3 ⟨rfl, b3⟩
      have P4 : Hid _ := at_below b3 (Nat.le_refl _) P3.out
      have y4 : Hid _ := below_from y3.out b3 y3.out.size
      clear b3 e0 e1 e2 e3 e4 e5 e6 e7 e8 e9 e10
      obtain ⟨e0, e1, e2, e3, e4, e5, e6, e7, e8, e9, e10⟩ := c11a P4.out
      cases x3 with
      | false =>
        go_wp2_with fail
        go_ret
        exact ⟨rfl, y4.out⟩
      | true =>
        go_wp2_with (go_at_call 41; refine (H4.out _ y4.out).mono ?_)
        rintro e w4 ⟨rfl, b4⟩
        have P5 : Hid _ := at_below b4 (Nat.le_refl _) P4.out
        have y5 : Hid _ := below_from y4.out b4 y4.out.size
        clear b4 e0 e1 e2 e3 e4 e5 e6 e7 e8 e9 e10
        obtain ⟨e0, e1, e2, e3, e4, e5, e6, e7, e8, e9, e10⟩ := c11a P5.out
        cases x4 with
        | false =>
          go_wp2_with fail
          go_ret
          exact ⟨rfl, y5.out⟩
        | true =>
          go_wp2_with (go_at_call 67; refine (H5.out _ y5.out).mono ?_)
          rintro e w5 ⟨rfl, b5⟩
          have P6 : Hid _ := at_below b5 (Nat.le_refl _) P5.out
          have y6 : Hid _ := below_from y5.out b5 y5.out.size
          clear b5 e0 e1 e2 e3 e4 e5 e6 e7 e8 e9 e10
          obtain ⟨e0, e1, e2, e3, e4, e5, e6, e7, e8, e9, e10⟩ := c11a P6.out
          cases x5 with
          | false =>
            go_wp2_with fail
            go_ret
            exact ⟨rfl, y6.out⟩
          | true =>
            go_wp2_with (go_at_call 68; refine (H6.out _ y6.out).mono ?_)
            rintro e w6 ⟨rfl, b6⟩
            have P7 : Hid _ := at_below b6 (Nat.le_refl _) P6.out
            have y7 : Hid _ := below_from y6.out b6 y6.out.size
            clear b6 e0 e1 e2 e3 e4 e5 e6 e7 e8 e9 e10
            obtain ⟨e0, e1, e2, e3, e4, e5, e6, e7, e8, e9, e10⟩ := c11a P7.out
            cases x6 with
            | false =>
              go_wp2_with fail
              go_ret
              exact ⟨rfl, y7.out⟩
            | true =>
              go_wp2_with (go_at_call 69; refine (H7.out _ y7.out).mono ?_)
              rintro e w7 ⟨rfl, b7⟩
              go_wp2_with fail
              go_ret
              exact ⟨rfl, below_from y7.out b7 y7.out.size⟩

end Go.Proofs.Ytnkkiepoljbhlaa
