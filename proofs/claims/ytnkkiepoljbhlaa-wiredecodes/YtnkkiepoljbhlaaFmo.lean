/-
  The reference's Job, where it refuses ahead of its loops.
-/
import Derived.Test.YtnkkiepoljbhlaaFmm
import Derived.Test.YtnkkiepoljbhlaaRnm
namespace Go.Proofs.Ytnkkiepoljbhlaa
open Go.RowKit

set_option maxHeartbeats 2000000 in
set_option maxRecDepth 100000 in
theorem rjob_a (id pr rt st at' sr : Int) (tn : ByteArray) (pa ta na da : Option Addr) (pn pc tk tc nn nc dn dc : Nat) (x1 x2 : Bool) (w : World)
    (H1 : Hid (∀ W, Calls Try.prog 31 #[.int .i64 id] W fun e w' => e = .returned (.bool x1) ∧ Below W.heap.size W w'))
    (_H2 : Hid (∀ W, Calls Try.prog 28 #[.string tn] W fun e w' => e = .returned (.bool x2) ∧ w' = W)) (hx : x1 = false) :
    Calls Try.prog 30 #[.agg #[.int .i64 id, .string tn, .int .i64 pr, .int .i64 rt, .slice pa pn pc, .slice ta tk tc, .int .i64 st, .int .i64 at', .slice na nn nc, .int .i64 sr, .slice da dn dc]] w fun e w' => e = .returned (.bool false) ∧ Below w.heap.size w w' := by
  subst hx
  go_enter Try.func30, Try.ntmps30
  go_upto_region 1 with fail
  have P1 : Hid _ := new0 (w := w) (o := .cells #[.int .i64 id, .string tn, .int .i64 pr, .int .i64 rt, .slice pa pn pc, .slice ta tk tc, .int .i64 st, .int .i64 at', .slice na nn nc, .int .i64 sr, .slice da dn dc] 30)
  have y1 : Hid (Below w.heap.size w (w.alloc (.cells #[.int .i64 id, .string tn, .int .i64 pr, .int .i64 rt, .slice pa pn pc, .slice ta tk tc, .int .i64 st, .int .i64 at', .slice na nn nc, .int .i64 sr, .slice da dn dc] 30))) := (Below.refl _ w).alloc (Nat.le_refl _) _
  generalize w.alloc (.cells #[.int .i64 id, .string tn, .int .i64 pr, .int .i64 rt, .slice pa pn pc, .slice ta tk tc, .int .i64 st, .int .i64 at', .slice na nn nc, .int .i64 sr, .slice da dn dc] 30) = W at *
  obtain ⟨e0, e1, e2, e3, e4, e5, e6, e7, e8, e9, e10⟩ := c11a P1.out
  go_wp2_with (go_at_call 31; refine (H1.out _).mono ?_)
  rintro e w1 ⟨rfl, b1⟩
  have P2 : Hid _ := at_below b1 (Nat.le_refl _) P1.out
  have y2 : Hid _ := below_from y1.out b1 y1.out.size
  clear b1 e0 e1 e2 e3 e4 e5 e6 e7 e8 e9 e10
  obtain ⟨e0, e1, e2, e3, e4, e5, e6, e7, e8, e9, e10⟩ := c11a P2.out
  go_wp2_with fail
  go_ret
  exact ⟨rfl, y2.out⟩
set_option maxHeartbeats 2000000 in
set_option maxRecDepth 100000 in
theorem rjob_b (id pr rt st at' sr : Int) (tn : ByteArray) (pa ta na da : Option Addr) (pn pc tk tc nn nc dn dc : Nat) (x1 x2 : Bool) (w : World)
    (H1 : Hid (∀ W, Calls Try.prog 31 #[.int .i64 id] W fun e w' => e = .returned (.bool x1) ∧ Below W.heap.size W w'))
    (H2 : Hid (∀ W, Calls Try.prog 28 #[.string tn] W fun e w' => e = .returned (.bool x2) ∧ w' = W)) (hx : x1 = true) (hy : x2 = false) :
    Calls Try.prog 30 #[.agg #[.int .i64 id, .string tn, .int .i64 pr, .int .i64 rt, .slice pa pn pc, .slice ta tk tc, .int .i64 st, .int .i64 at', .slice na nn nc, .int .i64 sr, .slice da dn dc]] w fun e w' => e = .returned (.bool false) ∧ Below w.heap.size w w' := by
  subst hx hy
  go_enter Try.func30, Try.ntmps30
  go_upto_region 1 with fail
  have P1 : Hid _ := new0 (w := w) (o := .cells #[.int .i64 id, .string tn, .int .i64 pr, .int .i64 rt, .slice pa pn pc, .slice ta tk tc, .int .i64 st, .int .i64 at', .slice na nn nc, .int .i64 sr, .slice da dn dc] 30)
  have y1 : Hid (Below w.heap.size w (w.alloc (.cells #[.int .i64 id, .string tn, .int .i64 pr, .int .i64 rt, .slice pa pn pc, .slice ta tk tc, .int .i64 st, .int .i64 at', .slice na nn nc, .int .i64 sr, .slice da dn dc] 30))) := (Below.refl _ w).alloc (Nat.le_refl _) _
  generalize w.alloc (.cells #[.int .i64 id, .string tn, .int .i64 pr, .int .i64 rt, .slice pa pn pc, .slice ta tk tc, .int .i64 st, .int .i64 at', .slice na nn nc, .int .i64 sr, .slice da dn dc] 30) = W at *
  obtain ⟨e0, e1, e2, e3, e4, e5, e6, e7, e8, e9, e10⟩ := c11a P1.out
  go_wp2_with (go_at_call 31; refine (H1.out _).mono ?_)
  rintro e w1 ⟨rfl, b1⟩
  have P2 : Hid _ := at_below b1 (Nat.le_refl _) P1.out
  have y2 : Hid _ := below_from y1.out b1 y1.out.size
  clear b1 e0 e1 e2 e3 e4 e5 e6 e7 e8 e9 e10
  obtain ⟨e0, e1, e2, e3, e4, e5, e6, e7, e8, e9, e10⟩ := c11a P2.out
  go_wp2_with (go_at_call 28; refine (H2.out _).mono ?_; rintro e w2 ⟨rfl, rfl⟩)
  go_ret
  exact ⟨rfl, y2.out⟩
set_option maxHeartbeats 2000000 in
set_option maxRecDepth 100000 in
theorem rjob_c0 (id pr rt st at' sr : Int) (tn : ByteArray) (pa ta na da : Option Addr) (pn pc tk tc nn nc dn dc : Nat) (x1 x2 : Bool) (w : World)
    (H1 : Hid (∀ W, Calls Try.prog 31 #[.int .i64 id] W fun e w' => e = .returned (.bool x1) ∧ Below W.heap.size W w'))
    (H2 : Hid (∀ W, Calls Try.prog 28 #[.string tn] W fun e w' => e = .returned (.bool x2) ∧ w' = W)) (hx : x1 = true) (hy : x2 = true)  (f0 : pr < 0) :
    Calls Try.prog 30 #[.agg #[.int .i64 id, .string tn, .int .i64 pr, .int .i64 rt, .slice pa pn pc, .slice ta tk tc, .int .i64 st, .int .i64 at', .slice na nn nc, .int .i64 sr, .slice da dn dc]] w fun e w' => e = .returned (.bool false) ∧ Below w.heap.size w w' := by
  subst hx hy
  go_enter Try.func30, Try.ntmps30
  go_upto_region 1 with fail
  have P1 : Hid _ := new0 (w := w) (o := .cells #[.int .i64 id, .string tn, .int .i64 pr, .int .i64 rt, .slice pa pn pc, .slice ta tk tc, .int .i64 st, .int .i64 at', .slice na nn nc, .int .i64 sr, .slice da dn dc] 30)
  have y1 : Hid (Below w.heap.size w (w.alloc (.cells #[.int .i64 id, .string tn, .int .i64 pr, .int .i64 rt, .slice pa pn pc, .slice ta tk tc, .int .i64 st, .int .i64 at', .slice na nn nc, .int .i64 sr, .slice da dn dc] 30))) := (Below.refl _ w).alloc (Nat.le_refl _) _
  generalize w.alloc (.cells #[.int .i64 id, .string tn, .int .i64 pr, .int .i64 rt, .slice pa pn pc, .slice ta tk tc, .int .i64 st, .int .i64 at', .slice na nn nc, .int .i64 sr, .slice da dn dc] 30) = W at *
  obtain ⟨e0, e1, e2, e3, e4, e5, e6, e7, e8, e9, e10⟩ := c11a P1.out
  go_wp2_with (go_at_call 31; refine (H1.out _).mono ?_)
  rintro e w1 ⟨rfl, b1⟩
  have P2 : Hid _ := at_below b1 (Nat.le_refl _) P1.out
  have y2 : Hid _ := below_from y1.out b1 y1.out.size
  clear b1 e0 e1 e2 e3 e4 e5 e6 e7 e8 e9 e10
  obtain ⟨e0, e1, e2, e3, e4, e5, e6, e7, e8, e9, e10⟩ := c11a P2.out
  go_wp2_with (go_at_call 28; refine (H2.out _).mono ?_; rintro e w2 ⟨rfl, rfl⟩)
  go_ret
  exact ⟨rfl, y2.out⟩
set_option maxHeartbeats 2000000 in
set_option maxRecDepth 100000 in
theorem rjob_c1 (id pr rt st at' sr : Int) (tn : ByteArray) (pa ta na da : Option Addr) (pn pc tk tc nn nc dn dc : Nat) (x1 x2 : Bool) (w : World)
    (H1 : Hid (∀ W, Calls Try.prog 31 #[.int .i64 id] W fun e w' => e = .returned (.bool x1) ∧ Below W.heap.size W w'))
    (H2 : Hid (∀ W, Calls Try.prog 28 #[.string tn] W fun e w' => e = .returned (.bool x2) ∧ w' = W)) (hx : x1 = true) (hy : x2 = true) (f0 : decide (pr < 0) = false) (f1 : (100 : Int) < pr) :
    Calls Try.prog 30 #[.agg #[.int .i64 id, .string tn, .int .i64 pr, .int .i64 rt, .slice pa pn pc, .slice ta tk tc, .int .i64 st, .int .i64 at', .slice na nn nc, .int .i64 sr, .slice da dn dc]] w fun e w' => e = .returned (.bool false) ∧ Below w.heap.size w w' := by
  subst hx hy
  go_enter Try.func30, Try.ntmps30
  go_upto_region 1 with fail
  have P1 : Hid _ := new0 (w := w) (o := .cells #[.int .i64 id, .string tn, .int .i64 pr, .int .i64 rt, .slice pa pn pc, .slice ta tk tc, .int .i64 st, .int .i64 at', .slice na nn nc, .int .i64 sr, .slice da dn dc] 30)
  have y1 : Hid (Below w.heap.size w (w.alloc (.cells #[.int .i64 id, .string tn, .int .i64 pr, .int .i64 rt, .slice pa pn pc, .slice ta tk tc, .int .i64 st, .int .i64 at', .slice na nn nc, .int .i64 sr, .slice da dn dc] 30))) := (Below.refl _ w).alloc (Nat.le_refl _) _
  generalize w.alloc (.cells #[.int .i64 id, .string tn, .int .i64 pr, .int .i64 rt, .slice pa pn pc, .slice ta tk tc, .int .i64 st, .int .i64 at', .slice na nn nc, .int .i64 sr, .slice da dn dc] 30) = W at *
  obtain ⟨e0, e1, e2, e3, e4, e5, e6, e7, e8, e9, e10⟩ := c11a P1.out
  go_wp2_with (go_at_call 31; refine (H1.out _).mono ?_)
  rintro e w1 ⟨rfl, b1⟩
  have P2 : Hid _ := at_below b1 (Nat.le_refl _) P1.out
  have y2 : Hid _ := below_from y1.out b1 y1.out.size
  clear b1 e0 e1 e2 e3 e4 e5 e6 e7 e8 e9 e10
  obtain ⟨e0, e1, e2, e3, e4, e5, e6, e7, e8, e9, e10⟩ := c11a P2.out
  go_wp2_with (go_at_call 28; refine (H2.out _).mono ?_; rintro e w2 ⟨rfl, rfl⟩)
  go_ret
  exact ⟨rfl, y2.out⟩
set_option maxHeartbeats 2000000 in
set_option maxRecDepth 100000 in
theorem rjob_c2 (id pr rt st at' sr : Int) (tn : ByteArray) (pa ta na da : Option Addr) (pn pc tk tc nn nc dn dc : Nat) (x1 x2 : Bool) (w : World)
    (H1 : Hid (∀ W, Calls Try.prog 31 #[.int .i64 id] W fun e w' => e = .returned (.bool x1) ∧ Below W.heap.size W w'))
    (H2 : Hid (∀ W, Calls Try.prog 28 #[.string tn] W fun e w' => e = .returned (.bool x2) ∧ w' = W)) (hx : x1 = true) (hy : x2 = true) (f0 : decide (pr < 0) = false) (f1 : decide ((100 : Int) < pr) = false) (f2 : rt < 1) :
    Calls Try.prog 30 #[.agg #[.int .i64 id, .string tn, .int .i64 pr, .int .i64 rt, .slice pa pn pc, .slice ta tk tc, .int .i64 st, .int .i64 at', .slice na nn nc, .int .i64 sr, .slice da dn dc]] w fun e w' => e = .returned (.bool false) ∧ Below w.heap.size w w' := by
  subst hx hy
  go_enter Try.func30, Try.ntmps30
  go_upto_region 1 with fail
  have P1 : Hid _ := new0 (w := w) (o := .cells #[.int .i64 id, .string tn, .int .i64 pr, .int .i64 rt, .slice pa pn pc, .slice ta tk tc, .int .i64 st, .int .i64 at', .slice na nn nc, .int .i64 sr, .slice da dn dc] 30)
  have y1 : Hid (Below w.heap.size w (w.alloc (.cells #[.int .i64 id, .string tn, .int .i64 pr, .int .i64 rt, .slice pa pn pc, .slice ta tk tc, .int .i64 st, .int .i64 at', .slice na nn nc, .int .i64 sr, .slice da dn dc] 30))) := (Below.refl _ w).alloc (Nat.le_refl _) _
  generalize w.alloc (.cells #[.int .i64 id, .string tn, .int .i64 pr, .int .i64 rt, .slice pa pn pc, .slice ta tk tc, .int .i64 st, .int .i64 at', .slice na nn nc, .int .i64 sr, .slice da dn dc] 30) = W at *
  obtain ⟨e0, e1, e2, e3, e4, e5, e6, e7, e8, e9, e10⟩ := c11a P1.out
  go_wp2_with (go_at_call 31; refine (H1.out _).mono ?_)
  rintro e w1 ⟨rfl, b1⟩
  have P2 : Hid _ := at_below b1 (Nat.le_refl _) P1.out
  have y2 : Hid _ := below_from y1.out b1 y1.out.size
  clear b1 e0 e1 e2 e3 e4 e5 e6 e7 e8 e9 e10
  obtain ⟨e0, e1, e2, e3, e4, e5, e6, e7, e8, e9, e10⟩ := c11a P2.out
  go_wp2_with (go_at_call 28; refine (H2.out _).mono ?_; rintro e w2 ⟨rfl, rfl⟩)
  go_ret
  exact ⟨rfl, y2.out⟩
set_option maxHeartbeats 2000000 in
set_option maxRecDepth 100000 in
theorem rjob_c3 (id pr rt st at' sr : Int) (tn : ByteArray) (pa ta na da : Option Addr) (pn pc tk tc nn nc dn dc : Nat) (x1 x2 : Bool) (w : World)
    (H1 : Hid (∀ W, Calls Try.prog 31 #[.int .i64 id] W fun e w' => e = .returned (.bool x1) ∧ Below W.heap.size W w'))
    (H2 : Hid (∀ W, Calls Try.prog 28 #[.string tn] W fun e w' => e = .returned (.bool x2) ∧ w' = W)) (hx : x1 = true) (hy : x2 = true) (f0 : decide (pr < 0) = false) (f1 : decide ((100 : Int) < pr) = false) (f2 : decide (rt < 1) = false) (f3 : (1000 : Int) < rt) :
    Calls Try.prog 30 #[.agg #[.int .i64 id, .string tn, .int .i64 pr, .int .i64 rt, .slice pa pn pc, .slice ta tk tc, .int .i64 st, .int .i64 at', .slice na nn nc, .int .i64 sr, .slice da dn dc]] w fun e w' => e = .returned (.bool false) ∧ Below w.heap.size w w' := by
  subst hx hy
  go_enter Try.func30, Try.ntmps30
  go_upto_region 1 with fail
  have P1 : Hid _ := new0 (w := w) (o := .cells #[.int .i64 id, .string tn, .int .i64 pr, .int .i64 rt, .slice pa pn pc, .slice ta tk tc, .int .i64 st, .int .i64 at', .slice na nn nc, .int .i64 sr, .slice da dn dc] 30)
  have y1 : Hid (Below w.heap.size w (w.alloc (.cells #[.int .i64 id, .string tn, .int .i64 pr, .int .i64 rt, .slice pa pn pc, .slice ta tk tc, .int .i64 st, .int .i64 at', .slice na nn nc, .int .i64 sr, .slice da dn dc] 30))) := (Below.refl _ w).alloc (Nat.le_refl _) _
  generalize w.alloc (.cells #[.int .i64 id, .string tn, .int .i64 pr, .int .i64 rt, .slice pa pn pc, .slice ta tk tc, .int .i64 st, .int .i64 at', .slice na nn nc, .int .i64 sr, .slice da dn dc] 30) = W at *
  obtain ⟨e0, e1, e2, e3, e4, e5, e6, e7, e8, e9, e10⟩ := c11a P1.out
  go_wp2_with (go_at_call 31; refine (H1.out _).mono ?_)
  rintro e w1 ⟨rfl, b1⟩
  have P2 : Hid _ := at_below b1 (Nat.le_refl _) P1.out
  have y2 : Hid _ := below_from y1.out b1 y1.out.size
  clear b1 e0 e1 e2 e3 e4 e5 e6 e7 e8 e9 e10
  obtain ⟨e0, e1, e2, e3, e4, e5, e6, e7, e8, e9, e10⟩ := c11a P2.out
  go_wp2_with (go_at_call 28; refine (H2.out _).mono ?_; rintro e w2 ⟨rfl, rfl⟩)
  go_ret
  exact ⟨rfl, y2.out⟩
set_option maxHeartbeats 2000000 in
set_option maxRecDepth 100000 in
theorem rjob_d0 (id pr rt st at' sr : Int) (tn : ByteArray) (pa ta na da : Option Addr) (pn pc tk tc nn nc dn dc : Nat) (x1 x2 : Bool) (w : World)
    (H1 : Hid (∀ W, Calls Try.prog 31 #[.int .i64 id] W fun e w' => e = .returned (.bool x1) ∧ Below W.heap.size W w'))
    (H2 : Hid (∀ W, Calls Try.prog 28 #[.string tn] W fun e w' => e = .returned (.bool x2) ∧ w' = W)) (hx : x1 = true) (hy : x2 = true) (f0 : decide (pr < 0) = false) (f1 : decide ((100 : Int) < pr) = false) (f2 : decide (rt < 1) = false) (f3 : decide ((1000 : Int) < rt) = false)  (z0 : (st == 0) = false) :
    Calls Try.prog 30 #[.agg #[.int .i64 id, .string tn, .int .i64 pr, .int .i64 rt, .slice pa pn pc, .slice ta tk tc, .int .i64 st, .int .i64 at', .slice na nn nc, .int .i64 sr, .slice da dn dc]] w fun e w' => e = .returned (.bool false) ∧ Below w.heap.size w w' := by
  have y : ¬ st = 0 := by simpa using z0
  have y' : (st != 0) = true := by simpa using y
  have y3 : decide (st = 0) = false := decide_eq_false y
  subst hx hy
  go_enter Try.func30, Try.ntmps30
  go_upto_region 1 with fail
  have P1 : Hid _ := new0 (w := w) (o := .cells #[.int .i64 id, .string tn, .int .i64 pr, .int .i64 rt, .slice pa pn pc, .slice ta tk tc, .int .i64 st, .int .i64 at', .slice na nn nc, .int .i64 sr, .slice da dn dc] 30)
  have y1 : Hid (Below w.heap.size w (w.alloc (.cells #[.int .i64 id, .string tn, .int .i64 pr, .int .i64 rt, .slice pa pn pc, .slice ta tk tc, .int .i64 st, .int .i64 at', .slice na nn nc, .int .i64 sr, .slice da dn dc] 30))) := (Below.refl _ w).alloc (Nat.le_refl _) _
  generalize w.alloc (.cells #[.int .i64 id, .string tn, .int .i64 pr, .int .i64 rt, .slice pa pn pc, .slice ta tk tc, .int .i64 st, .int .i64 at', .slice na nn nc, .int .i64 sr, .slice da dn dc] 30) = W at *
  obtain ⟨e0, e1, e2, e3, e4, e5, e6, e7, e8, e9, e10⟩ := c11a P1.out
  go_wp2_with (go_at_call 31; refine (H1.out _).mono ?_)
  rintro e w1 ⟨rfl, b1⟩
  have P2 : Hid _ := at_below b1 (Nat.le_refl _) P1.out
  have y2 : Hid _ := below_from y1.out b1 y1.out.size
  clear b1 e0 e1 e2 e3 e4 e5 e6 e7 e8 e9 e10
  obtain ⟨e0, e1, e2, e3, e4, e5, e6, e7, e8, e9, e10⟩ := c11a P2.out
  go_wp2_with (go_at_call 28; refine (H2.out _).mono ?_; rintro e w2 ⟨rfl, rfl⟩)
  go_ret
  exact ⟨rfl, y2.out⟩
set_option maxHeartbeats 2000000 in
set_option maxRecDepth 100000 in
theorem rjob_d1 (id pr rt st at' sr : Int) (tn : ByteArray) (pa ta na da : Option Addr) (pn pc tk tc nn nc dn dc : Nat) (x1 x2 : Bool) (w : World)
    (H1 : Hid (∀ W, Calls Try.prog 31 #[.int .i64 id] W fun e w' => e = .returned (.bool x1) ∧ Below W.heap.size W w'))
    (H2 : Hid (∀ W, Calls Try.prog 28 #[.string tn] W fun e w' => e = .returned (.bool x2) ∧ w' = W)) (hx : x1 = true) (hy : x2 = true) (f0 : decide (pr < 0) = false) (f1 : decide ((100 : Int) < pr) = false) (f2 : decide (rt < 1) = false) (f3 : decide ((1000 : Int) < rt) = false) (z0 : st = 0) (z1 : (at' == 0) = false) :
    Calls Try.prog 30 #[.agg #[.int .i64 id, .string tn, .int .i64 pr, .int .i64 rt, .slice pa pn pc, .slice ta tk tc, .int .i64 st, .int .i64 at', .slice na nn nc, .int .i64 sr, .slice da dn dc]] w fun e w' => e = .returned (.bool false) ∧ Below w.heap.size w w' := by
  have y : ¬ at' = 0 := by simpa using z1
  have y' : (at' != 0) = true := by simpa using y
  have y3 : decide (at' = 0) = false := decide_eq_false y
  subst hx hy z0
  go_enter Try.func30, Try.ntmps30
  go_upto_region 1 with fail
  have P1 : Hid _ := new0 (w := w) (o := .cells #[.int .i64 id, .string tn, .int .i64 pr, .int .i64 rt, .slice pa pn pc, .slice ta tk tc, .int .i64 0, .int .i64 at', .slice na nn nc, .int .i64 sr, .slice da dn dc] 30)
  have y1 : Hid (Below w.heap.size w (w.alloc (.cells #[.int .i64 id, .string tn, .int .i64 pr, .int .i64 rt, .slice pa pn pc, .slice ta tk tc, .int .i64 0, .int .i64 at', .slice na nn nc, .int .i64 sr, .slice da dn dc] 30))) := (Below.refl _ w).alloc (Nat.le_refl _) _
  generalize w.alloc (.cells #[.int .i64 id, .string tn, .int .i64 pr, .int .i64 rt, .slice pa pn pc, .slice ta tk tc, .int .i64 0, .int .i64 at', .slice na nn nc, .int .i64 sr, .slice da dn dc] 30) = W at *
  obtain ⟨e0, e1, e2, e3, e4, e5, e6, e7, e8, e9, e10⟩ := c11a P1.out
  go_wp2_with (go_at_call 31; refine (H1.out _).mono ?_)
  rintro e w1 ⟨rfl, b1⟩
  have P2 : Hid _ := at_below b1 (Nat.le_refl _) P1.out
  have y2 : Hid _ := below_from y1.out b1 y1.out.size
  clear b1 e0 e1 e2 e3 e4 e5 e6 e7 e8 e9 e10
  obtain ⟨e0, e1, e2, e3, e4, e5, e6, e7, e8, e9, e10⟩ := c11a P2.out
  go_wp2_with (go_at_call 28; refine (H2.out _).mono ?_; rintro e w2 ⟨rfl, rfl⟩)
  go_ret
  exact ⟨rfl, y2.out⟩
set_option maxHeartbeats 2000000 in
set_option maxRecDepth 100000 in
theorem rjob_d2 (id pr rt st at' sr : Int) (tn : ByteArray) (pa ta na da : Option Addr) (pn pc tk tc nn nc dn dc : Nat) (x1 x2 : Bool) (w : World)
    (H1 : Hid (∀ W, Calls Try.prog 31 #[.int .i64 id] W fun e w' => e = .returned (.bool x1) ∧ Below W.heap.size W w'))
    (H2 : Hid (∀ W, Calls Try.prog 28 #[.string tn] W fun e w' => e = .returned (.bool x2) ∧ w' = W)) (hx : x1 = true) (hy : x2 = true) (f0 : decide (pr < 0) = false) (f1 : decide ((100 : Int) < pr) = false) (f2 : decide (rt < 1) = false) (f3 : decide ((1000 : Int) < rt) = false) (z0 : st = 0) (z1 : at' = 0) (z2 : (sr == 0) = false) :
    Calls Try.prog 30 #[.agg #[.int .i64 id, .string tn, .int .i64 pr, .int .i64 rt, .slice pa pn pc, .slice ta tk tc, .int .i64 st, .int .i64 at', .slice na nn nc, .int .i64 sr, .slice da dn dc]] w fun e w' => e = .returned (.bool false) ∧ Below w.heap.size w w' := by
  have y : ¬ sr = 0 := by simpa using z2
  have y' : (sr != 0) = true := by simpa using y
  have y3 : decide (sr = 0) = false := decide_eq_false y
  subst hx hy z0 z1
  go_enter Try.func30, Try.ntmps30
  go_upto_region 1 with fail
  have P1 : Hid _ := new0 (w := w) (o := .cells #[.int .i64 id, .string tn, .int .i64 pr, .int .i64 rt, .slice pa pn pc, .slice ta tk tc, .int .i64 0, .int .i64 0, .slice na nn nc, .int .i64 sr, .slice da dn dc] 30)
  have y1 : Hid (Below w.heap.size w (w.alloc (.cells #[.int .i64 id, .string tn, .int .i64 pr, .int .i64 rt, .slice pa pn pc, .slice ta tk tc, .int .i64 0, .int .i64 0, .slice na nn nc, .int .i64 sr, .slice da dn dc] 30))) := (Below.refl _ w).alloc (Nat.le_refl _) _
  generalize w.alloc (.cells #[.int .i64 id, .string tn, .int .i64 pr, .int .i64 rt, .slice pa pn pc, .slice ta tk tc, .int .i64 0, .int .i64 0, .slice na nn nc, .int .i64 sr, .slice da dn dc] 30) = W at *
  obtain ⟨e0, e1, e2, e3, e4, e5, e6, e7, e8, e9, e10⟩ := c11a P1.out
  go_wp2_with (go_at_call 31; refine (H1.out _).mono ?_)
  rintro e w1 ⟨rfl, b1⟩
  have P2 : Hid _ := at_below b1 (Nat.le_refl _) P1.out
  have y2 : Hid _ := below_from y1.out b1 y1.out.size
  clear b1 e0 e1 e2 e3 e4 e5 e6 e7 e8 e9 e10
  obtain ⟨e0, e1, e2, e3, e4, e5, e6, e7, e8, e9, e10⟩ := c11a P2.out
  go_wp2_with (go_at_call 28; refine (H2.out _).mono ?_; rintro e w2 ⟨rfl, rfl⟩)
  go_ret
  exact ⟨rfl, y2.out⟩
set_option maxHeartbeats 2000000 in
set_option maxRecDepth 100000 in
theorem rjob_d3 (id pr rt st at' sr : Int) (tn : ByteArray) (pa ta na da : Option Addr) (pn pc tk tc nn nc dn dc : Nat) (x1 x2 : Bool) (w : World)
    (H1 : Hid (∀ W, Calls Try.prog 31 #[.int .i64 id] W fun e w' => e = .returned (.bool x1) ∧ Below W.heap.size W w'))
    (H2 : Hid (∀ W, Calls Try.prog 28 #[.string tn] W fun e w' => e = .returned (.bool x2) ∧ w' = W)) (hx : x1 = true) (hy : x2 = true) (f0 : decide (pr < 0) = false) (f1 : decide ((100 : Int) < pr) = false) (f2 : decide (rt < 1) = false) (f3 : decide ((1000 : Int) < rt) = false) (z0 : st = 0) (z1 : at' = 0) (z2 : sr = 0) (z3 : (0 : Int) < (nn : Int)) :
    Calls Try.prog 30 #[.agg #[.int .i64 id, .string tn, .int .i64 pr, .int .i64 rt, .slice pa pn pc, .slice ta tk tc, .int .i64 st, .int .i64 at', .slice na nn nc, .int .i64 sr, .slice da dn dc]] w fun e w' => e = .returned (.bool false) ∧ Below w.heap.size w w' := by
  subst hx hy z0 z1 z2
  go_enter Try.func30, Try.ntmps30
  go_upto_region 1 with fail
  have P1 : Hid _ := new0 (w := w) (o := .cells #[.int .i64 id, .string tn, .int .i64 pr, .int .i64 rt, .slice pa pn pc, .slice ta tk tc, .int .i64 0, .int .i64 0, .slice na nn nc, .int .i64 0, .slice da dn dc] 30)
  have y1 : Hid (Below w.heap.size w (w.alloc (.cells #[.int .i64 id, .string tn, .int .i64 pr, .int .i64 rt, .slice pa pn pc, .slice ta tk tc, .int .i64 0, .int .i64 0, .slice na nn nc, .int .i64 0, .slice da dn dc] 30))) := (Below.refl _ w).alloc (Nat.le_refl _) _
  generalize w.alloc (.cells #[.int .i64 id, .string tn, .int .i64 pr, .int .i64 rt, .slice pa pn pc, .slice ta tk tc, .int .i64 0, .int .i64 0, .slice na nn nc, .int .i64 0, .slice da dn dc] 30) = W at *
  obtain ⟨e0, e1, e2, e3, e4, e5, e6, e7, e8, e9, e10⟩ := c11a P1.out
  go_wp2_with (go_at_call 31; refine (H1.out _).mono ?_)
  rintro e w1 ⟨rfl, b1⟩
  have P2 : Hid _ := at_below b1 (Nat.le_refl _) P1.out
  have y2 : Hid _ := below_from y1.out b1 y1.out.size
  clear b1 e0 e1 e2 e3 e4 e5 e6 e7 e8 e9 e10
  obtain ⟨e0, e1, e2, e3, e4, e5, e6, e7, e8, e9, e10⟩ := c11a P2.out
  go_wp2_with (go_at_call 28; refine (H2.out _).mono ?_; rintro e w2 ⟨rfl, rfl⟩)
  go_ret
  exact ⟨rfl, y2.out⟩
set_option maxHeartbeats 2000000 in
set_option maxRecDepth 100000 in
theorem rjob_d4 (id pr rt st at' sr : Int) (tn : ByteArray) (pa ta na da : Option Addr) (pn pc tk tc nn nc dn dc : Nat) (x1 x2 : Bool) (w : World)
    (H1 : Hid (∀ W, Calls Try.prog 31 #[.int .i64 id] W fun e w' => e = .returned (.bool x1) ∧ Below W.heap.size W w'))
    (H2 : Hid (∀ W, Calls Try.prog 28 #[.string tn] W fun e w' => e = .returned (.bool x2) ∧ w' = W)) (hx : x1 = true) (hy : x2 = true) (f0 : decide (pr < 0) = false) (f1 : decide ((100 : Int) < pr) = false) (f2 : decide (rt < 1) = false) (f3 : decide ((1000 : Int) < rt) = false) (z0 : st = 0) (z1 : at' = 0) (z2 : sr = 0) (z3 : nn = 0) (z4 : (0 : Int) < (dn : Int)) :
    Calls Try.prog 30 #[.agg #[.int .i64 id, .string tn, .int .i64 pr, .int .i64 rt, .slice pa pn pc, .slice ta tk tc, .int .i64 st, .int .i64 at', .slice na nn nc, .int .i64 sr, .slice da dn dc]] w fun e w' => e = .returned (.bool false) ∧ Below w.heap.size w w' := by
  subst hx hy z0 z1 z2 z3
  go_enter Try.func30, Try.ntmps30
  go_upto_region 1 with fail
  have P1 : Hid _ := new0 (w := w) (o := .cells #[.int .i64 id, .string tn, .int .i64 pr, .int .i64 rt, .slice pa pn pc, .slice ta tk tc, .int .i64 0, .int .i64 0, .slice na 0 nc, .int .i64 0, .slice da dn dc] 30)
  have y1 : Hid (Below w.heap.size w (w.alloc (.cells #[.int .i64 id, .string tn, .int .i64 pr, .int .i64 rt, .slice pa pn pc, .slice ta tk tc, .int .i64 0, .int .i64 0, .slice na 0 nc, .int .i64 0, .slice da dn dc] 30))) := (Below.refl _ w).alloc (Nat.le_refl _) _
  generalize w.alloc (.cells #[.int .i64 id, .string tn, .int .i64 pr, .int .i64 rt, .slice pa pn pc, .slice ta tk tc, .int .i64 0, .int .i64 0, .slice na 0 nc, .int .i64 0, .slice da dn dc] 30) = W at *
  obtain ⟨e0, e1, e2, e3, e4, e5, e6, e7, e8, e9, e10⟩ := c11a P1.out
  go_wp2_with (go_at_call 31; refine (H1.out _).mono ?_)
  rintro e w1 ⟨rfl, b1⟩
  have P2 : Hid _ := at_below b1 (Nat.le_refl _) P1.out
  have y2 : Hid _ := below_from y1.out b1 y1.out.size
  clear b1 e0 e1 e2 e3 e4 e5 e6 e7 e8 e9 e10
  obtain ⟨e0, e1, e2, e3, e4, e5, e6, e7, e8, e9, e10⟩ := c11a P2.out
  go_wp2_with (go_at_call 28; refine (H2.out _).mono ?_; rintro e w2 ⟨rfl, rfl⟩)
  go_ret
  exact ⟨rfl, y2.out⟩
set_option maxHeartbeats 2000000 in
set_option maxRecDepth 100000 in
theorem rjob_e0 (id pr rt st at' sr : Int) (tn : ByteArray) (pa ta na da : Option Addr) (pn pc tk tc nn nc dn dc : Nat) (x1 x2 : Bool) (w : World)
    (H1 : Hid (∀ W, Calls Try.prog 31 #[.int .i64 id] W fun e w' => e = .returned (.bool x1) ∧ Below W.heap.size W w'))
    (H2 : Hid (∀ W, Calls Try.prog 28 #[.string tn] W fun e w' => e = .returned (.bool x2) ∧ w' = W)) (hx : x1 = true) (hy : x2 = true) (f0 : decide (pr < 0) = false) (f1 : decide ((100 : Int) < pr) = false) (f2 : decide (rt < 1) = false) (f3 : decide ((1000 : Int) < rt) = false) (z0 : st = 0) (z1 : at' = 0) (z2 : sr = 0) (z3 : nn = 0) (z4 : dn = 0) (l0 : (4 : Int) < (pn : Int)) :
    Calls Try.prog 30 #[.agg #[.int .i64 id, .string tn, .int .i64 pr, .int .i64 rt, .slice pa pn pc, .slice ta tk tc, .int .i64 st, .int .i64 at', .slice na nn nc, .int .i64 sr, .slice da dn dc]] w fun e w' => e = .returned (.bool false) ∧ Below w.heap.size w w' := by
  subst hx hy z0 z1 z2 z3 z4
  go_enter Try.func30, Try.ntmps30
  go_upto_region 1 with fail
  have P1 : Hid _ := new0 (w := w) (o := .cells #[.int .i64 id, .string tn, .int .i64 pr, .int .i64 rt, .slice pa pn pc, .slice ta tk tc, .int .i64 0, .int .i64 0, .slice na 0 nc, .int .i64 0, .slice da 0 dc] 30)
  have y1 : Hid (Below w.heap.size w (w.alloc (.cells #[.int .i64 id, .string tn, .int .i64 pr, .int .i64 rt, .slice pa pn pc, .slice ta tk tc, .int .i64 0, .int .i64 0, .slice na 0 nc, .int .i64 0, .slice da 0 dc] 30))) := (Below.refl _ w).alloc (Nat.le_refl _) _
  generalize w.alloc (.cells #[.int .i64 id, .string tn, .int .i64 pr, .int .i64 rt, .slice pa pn pc, .slice ta tk tc, .int .i64 0, .int .i64 0, .slice na 0 nc, .int .i64 0, .slice da 0 dc] 30) = W at *
  obtain ⟨e0, e1, e2, e3, e4, e5, e6, e7, e8, e9, e10⟩ := c11a P1.out
  go_wp2_with (go_at_call 31; refine (H1.out _).mono ?_)
  rintro e w1 ⟨rfl, b1⟩
  have P2 : Hid _ := at_below b1 (Nat.le_refl _) P1.out
  have y2 : Hid _ := below_from y1.out b1 y1.out.size
  clear b1 e0 e1 e2 e3 e4 e5 e6 e7 e8 e9 e10
  obtain ⟨e0, e1, e2, e3, e4, e5, e6, e7, e8, e9, e10⟩ := c11a P2.out
  go_wp2_with (go_at_call 28; refine (H2.out _).mono ?_; rintro e w2 ⟨rfl, rfl⟩)
  go_ret
  exact ⟨rfl, y2.out⟩
set_option maxHeartbeats 2000000 in
set_option maxRecDepth 100000 in
theorem rjob_e1 (id pr rt st at' sr : Int) (tn : ByteArray) (pa ta na da : Option Addr) (pn pc tk tc nn nc dn dc : Nat) (x1 x2 : Bool) (w : World)
    (H1 : Hid (∀ W, Calls Try.prog 31 #[.int .i64 id] W fun e w' => e = .returned (.bool x1) ∧ Below W.heap.size W w'))
    (H2 : Hid (∀ W, Calls Try.prog 28 #[.string tn] W fun e w' => e = .returned (.bool x2) ∧ w' = W)) (hx : x1 = true) (hy : x2 = true) (f0 : decide (pr < 0) = false) (f1 : decide ((100 : Int) < pr) = false) (f2 : decide (rt < 1) = false) (f3 : decide ((1000 : Int) < rt) = false) (z0 : st = 0) (z1 : at' = 0) (z2 : sr = 0) (z3 : nn = 0) (z4 : dn = 0) (l0 : decide ((4 : Int) < (pn : Int)) = false) (l1 : (tk : Int) < 1) :
    Calls Try.prog 30 #[.agg #[.int .i64 id, .string tn, .int .i64 pr, .int .i64 rt, .slice pa pn pc, .slice ta tk tc, .int .i64 st, .int .i64 at', .slice na nn nc, .int .i64 sr, .slice da dn dc]] w fun e w' => e = .returned (.bool false) ∧ Below w.heap.size w w' := by
  subst hx hy z0 z1 z2 z3 z4
  go_enter Try.func30, Try.ntmps30
  go_upto_region 1 with fail
  have P1 : Hid _ := new0 (w := w) (o := .cells #[.int .i64 id, .string tn, .int .i64 pr, .int .i64 rt, .slice pa pn pc, .slice ta tk tc, .int .i64 0, .int .i64 0, .slice na 0 nc, .int .i64 0, .slice da 0 dc] 30)
  have y1 : Hid (Below w.heap.size w (w.alloc (.cells #[.int .i64 id, .string tn, .int .i64 pr, .int .i64 rt, .slice pa pn pc, .slice ta tk tc, .int .i64 0, .int .i64 0, .slice na 0 nc, .int .i64 0, .slice da 0 dc] 30))) := (Below.refl _ w).alloc (Nat.le_refl _) _
  generalize w.alloc (.cells #[.int .i64 id, .string tn, .int .i64 pr, .int .i64 rt, .slice pa pn pc, .slice ta tk tc, .int .i64 0, .int .i64 0, .slice na 0 nc, .int .i64 0, .slice da 0 dc] 30) = W at *
  obtain ⟨e0, e1, e2, e3, e4, e5, e6, e7, e8, e9, e10⟩ := c11a P1.out
  go_wp2_with (go_at_call 31; refine (H1.out _).mono ?_)
  rintro e w1 ⟨rfl, b1⟩
  have P2 : Hid _ := at_below b1 (Nat.le_refl _) P1.out
  have y2 : Hid _ := below_from y1.out b1 y1.out.size
  clear b1 e0 e1 e2 e3 e4 e5 e6 e7 e8 e9 e10
  obtain ⟨e0, e1, e2, e3, e4, e5, e6, e7, e8, e9, e10⟩ := c11a P2.out
  go_wp2_with (go_at_call 28; refine (H2.out _).mono ?_; rintro e w2 ⟨rfl, rfl⟩)
  go_ret
  exact ⟨rfl, y2.out⟩
set_option maxHeartbeats 2000000 in
set_option maxRecDepth 100000 in
theorem rjob_e2 (id pr rt st at' sr : Int) (tn : ByteArray) (pa ta na da : Option Addr) (pn pc tk tc nn nc dn dc : Nat) (x1 x2 : Bool) (w : World)
    (H1 : Hid (∀ W, Calls Try.prog 31 #[.int .i64 id] W fun e w' => e = .returned (.bool x1) ∧ Below W.heap.size W w'))
    (H2 : Hid (∀ W, Calls Try.prog 28 #[.string tn] W fun e w' => e = .returned (.bool x2) ∧ w' = W)) (hx : x1 = true) (hy : x2 = true) (f0 : decide (pr < 0) = false) (f1 : decide ((100 : Int) < pr) = false) (f2 : decide (rt < 1) = false) (f3 : decide ((1000 : Int) < rt) = false) (z0 : st = 0) (z1 : at' = 0) (z2 : sr = 0) (z3 : nn = 0) (z4 : dn = 0) (l0 : decide ((4 : Int) < (pn : Int)) = false) (l1 : decide ((tk : Int) < 1) = false) (l2 : (6 : Int) < (tk : Int)) :
    Calls Try.prog 30 #[.agg #[.int .i64 id, .string tn, .int .i64 pr, .int .i64 rt, .slice pa pn pc, .slice ta tk tc, .int .i64 st, .int .i64 at', .slice na nn nc, .int .i64 sr, .slice da dn dc]] w fun e w' => e = .returned (.bool false) ∧ Below w.heap.size w w' := by
  subst hx hy z0 z1 z2 z3 z4
  go_enter Try.func30, Try.ntmps30
  go_upto_region 1 with fail
  have P1 : Hid _ := new0 (w := w) (o := .cells #[.int .i64 id, .string tn, .int .i64 pr, .int .i64 rt, .slice pa pn pc, .slice ta tk tc, .int .i64 0, .int .i64 0, .slice na 0 nc, .int .i64 0, .slice da 0 dc] 30)
  have y1 : Hid (Below w.heap.size w (w.alloc (.cells #[.int .i64 id, .string tn, .int .i64 pr, .int .i64 rt, .slice pa pn pc, .slice ta tk tc, .int .i64 0, .int .i64 0, .slice na 0 nc, .int .i64 0, .slice da 0 dc] 30))) := (Below.refl _ w).alloc (Nat.le_refl _) _
  generalize w.alloc (.cells #[.int .i64 id, .string tn, .int .i64 pr, .int .i64 rt, .slice pa pn pc, .slice ta tk tc, .int .i64 0, .int .i64 0, .slice na 0 nc, .int .i64 0, .slice da 0 dc] 30) = W at *
  obtain ⟨e0, e1, e2, e3, e4, e5, e6, e7, e8, e9, e10⟩ := c11a P1.out
  go_wp2_with (go_at_call 31; refine (H1.out _).mono ?_)
  rintro e w1 ⟨rfl, b1⟩
  have P2 : Hid _ := at_below b1 (Nat.le_refl _) P1.out
  have y2 : Hid _ := below_from y1.out b1 y1.out.size
  clear b1 e0 e1 e2 e3 e4 e5 e6 e7 e8 e9 e10
  obtain ⟨e0, e1, e2, e3, e4, e5, e6, e7, e8, e9, e10⟩ := c11a P2.out
  go_wp2_with (go_at_call 28; refine (H2.out _).mono ?_; rintro e w2 ⟨rfl, rfl⟩)
  go_ret
  exact ⟨rfl, y2.out⟩
end Go.Proofs.Ytnkkiepoljbhlaa
