/-
  The order of keys and of entries, as the program finds it: compare, before.
-/
import Derived.Test.YtcgaekaollhmpaaGreatQc
import Derived.Test.YtcgaekaollhmpaaGreatPa
import Derived.Test.YtcgaekaollhmpaaGreatNc
namespace Go.Proofs.YtcgaekaollhmpaaGreat
open Go.RowKit

def ordI (a b : Int) : Int := if a < b then -1 else if b < a then 1 else 0
set_option maxHeartbeats 400000 in
theorem isNaN64_any (a : Int) (w : World) : Calls Tryz.prog 114 #[.int .i64 a] w fun e w' => e = .returned (.bool false) ∧ w' = w := by
  go_enter Tryz.func114, Tryz.ntmps114
  go_wp2
  go_ret
  exact ⟨by simp, rfl⟩
set_option maxHeartbeats 400000 in
theorem isNaNi_any (a : Int) (w : World) : Calls Tryz.prog 112 #[.int .i64 a] w fun e w' => e = .returned (.bool false) ∧ w' = w := by
  go_enter Tryz.func112, Tryz.ntmps112
  go_wp2
  go_ret
  exact ⟨by simp, rfl⟩
set_option maxHeartbeats 400000 in
theorem compare64_any (a b : Int) (w : World) : Calls Tryz.prog 111 #[.int .i64 a, .int .i64 b] w fun e w' => e = .returned (.int .i64 (ordI a b)) ∧ w' = w := by
  go_enter Tryz.func111, Tryz.ntmps111
  go_wp2_with (go_at_call 114; refine (isNaN64_any _ _).mono ?_; rintro e w' ⟨rfl, rfl⟩)
  · rename_i h; go_ret; rw [ordI, if_pos h]; exact ⟨rfl, rfl⟩
  · rename_i h h2; go_ret; rw [ordI, if_neg (by omega), if_pos (by omega)]; exact ⟨rfl, rfl⟩
  · rename_i h h2; go_ret; rw [ordI, if_neg (by omega), if_neg (by omega)]; exact ⟨rfl, rfl⟩
set_option maxHeartbeats 400000 in
theorem comparei_any (a b : Int) (w : World) : Calls Tryz.prog 100 #[.int .i64 a, .int .i64 b] w fun e w' => e = .returned (.int .i64 (ordI a b)) ∧ w' = w := by
  go_enter Tryz.func100, Tryz.ntmps100
  go_wp2_with (go_at_call 112; refine (isNaNi_any _ _).mono ?_; rintro e w' ⟨rfl, rfl⟩)
  · rename_i h; go_ret; rw [ordI, if_pos h]; exact ⟨rfl, rfl⟩
  · rename_i h h2; go_ret; rw [ordI, if_neg (by omega), if_pos (by omega)]; exact ⟨rfl, rfl⟩
  · rename_i h h2; go_ret; rw [ordI, if_neg (by omega), if_neg (by omega)]; exact ⟨rfl, rfl⟩

def kc (a b : K) : Int := orI (Q.ord (a.n * b.d) (b.n * a.d)) (ordI a.t b.t)
def ec (a : K) (x : Nat) (b : K) (y : Nat) : Int := orI (kc a b) (ordI x y)
theorem kc_lt {a b : K} : kc a b < 0 ↔ kl a b := by
  unfold kc kl rl re orI ordI
  rcases Q.ord_cases (a.n * b.d) (b.n * a.d) with ⟨h, h'⟩ | ⟨h, h'⟩ | ⟨h, h'⟩ <;> rw [h] <;> simp <;> (repeat' split) <;> omega
theorem kc_zero {a b : K} : kc a b = 0 ↔ ke a b := by
  unfold kc ke re orI ordI
  rcases Q.ord_cases (a.n * b.d) (b.n * a.d) with ⟨h, h'⟩ | ⟨h, h'⟩ | ⟨h, h'⟩ <;> rw [h] <;> simp <;> (repeat' split) <;> omega
theorem kc_pos {a b : K} : 0 < kc a b ↔ kl b a := by
  unfold kc kl rl re orI ordI
  rcases Q.ord_cases (a.n * b.d) (b.n * a.d) with ⟨h, h'⟩ | ⟨h, h'⟩ | ⟨h, h'⟩ <;> rw [h] <;> simp <;> (repeat' split) <;> omega
theorem ec_lt {a b : K} {x y : Nat} : ec a x b y < 0 ↔ el a x b y := by
  unfold ec el
  rw [← kc_lt, ← kc_zero]
  generalize kc a b = z
  unfold orI ordI
  (repeat' split) <;> omega

def elB (a : K) (x : Nat) (b : K) (y : Nat) : Bool := decide (ec a x b y < 0)
theorem elB_iff {a b : K} {x y : Nat} : elB a x b y = true ↔ el a x b y := by unfold elB; rw [decide_eq_true_iff, ec_lt]
theorem elB_no {a b : K} {x y : Nat} : elB a x b y = false ↔ ¬ el a x b y := by rw [← elB_iff]; simp
def K.v (k : K) : Value := .agg #[.int .u64 k.n, .int .u64 k.d, .int .i64 k.t]
set_option maxHeartbeats 1000000 in
theorem compare_keys (a b : K) (ha : a.ok) (hb : b.ok) (w : World) : Calls Tryz.prog 99 #[a.v, b.v] w fun e w' => e = .returned (.int .i64 (kc a b)) ∧ Below w.heap.size w w' := by
  have H47 : Hid (∀ w, Calls Tryz.prog 33 #[.agg #[.int .u64 a.n, .int .u64 a.d], .agg #[.int .u64 b.n, .int .u64 b.d]] w fun e w' => e = .returned (.tuple #[.int .i64 (Q.ord (a.n * b.d) (b.n * a.d)), .int .i64 0]) ∧ Below w.heap.size w w') := fun w => rat_cmp_good a.n a.d b.n b.d w ha.n ha.d hb.n hb.d ha.z hb.z
  have H49 : Hid (∀ w, Calls Tryz.prog 111 #[.int .i64 a.t, .int .i64 b.t] w fun e w' => e = .returned (.int .i64 (ordI a.t b.t)) ∧ w' = w) := fun w => compare64_any _ _ w
  have HO : Hid (∀ (w : World) (o : Int), Calls Tryz.prog 84 #[.slice (some ⟨w.heap.size, 0, none⟩) 2 2] (w.alloc (.cells #[.int .i64 o, .int .i64 (ordI a.t b.t)] 3)) fun e w' => e = .returned (.int .i64 (orI o (ordI a.t b.t))) ∧ w' = w.alloc (.cells #[.int .i64 o, .int .i64 (ordI a.t b.t)] 3)) := fun w o => or_two o (ordI a.t b.t) w.heap.size 2 _ (Lib.cell_of_heap new0 0) (Lib.cell_of_heap new0 1)
  unfold kc K.v
  generalize Q.ord (a.n * b.d) (b.n * a.d) = o at *
  generalize ordI a.t b.t = p at *
  clear ha hb
  go_enter Tryz.func99, Tryz.ntmps99
  go_upto_region 1 with fail
  have G0 : ((w.alloc (.cells #[.int .u64 a.n, .int .u64 a.d, .int .i64 a.t] 72)).alloc (.cells #[.int .u64 b.n, .int .u64 b.d, .int .i64 b.t] 72)).heap[w.heap.size]? = some (.cells #[.int .u64 a.n, .int .u64 a.d, .int .i64 a.t] 72 (0, 0)) := first0
  have G1 : ((w.alloc (.cells #[.int .u64 a.n, .int .u64 a.d, .int .i64 a.t] 72)).alloc (.cells #[.int .u64 b.n, .int .u64 b.d, .int .i64 b.t] 72)).heap[w.heap.size + 1]? = some (.cells #[.int .u64 b.n, .int .u64 b.d, .int .i64 b.t] 72 (0, 0)) := first1
  have B0 : Below w.heap.size w ((w.alloc (.cells #[.int .u64 a.n, .int .u64 a.d, .int .i64 a.t] 72)).alloc (.cells #[.int .u64 b.n, .int .u64 b.d, .int .i64 b.t] 72)) := by go_grown
  generalize (w.alloc (.cells #[.int .u64 a.n, .int .u64 a.d, .int .i64 a.t] 72)).alloc (.cells #[.int .u64 b.n, .int .u64 b.d, .int .i64 b.t] 72) = W at *
  obtain ⟨c0, c1, c2⟩ := c3 G0
  obtain ⟨d0, d1, d2⟩ := c3 G1
  go_upto_region 2 with (go_at_call 33; refine (H47.out _).mono ?_; rintro e w1 ⟨rfl, b1⟩; have K0 := at_below b1 (Nat.le_refl _) G0; have K1 := at_below b1 (Nat.le_refl _) G1; have B1 : Hid (Below w.heap.size w w1) := B0.trans (b1.mono B0.size); clear G0 G1 B0 b1 c0 c1 c2 d0 d1 d2)
  obtain ⟨c0, c1, c2⟩ := c3 K0
  obtain ⟨d0, d1, d2⟩ := c3 K1
  clear K0 K1
  go_wp2_with (first | (go_at_call 111; refine (H49.out _).mono ?_; rintro e w2 ⟨rfl, rfl⟩) | (go_at_call 84; refine (HO.out _ _).mono ?_; rintro e w3 ⟨rfl, rfl⟩))
  go_ret
  exact ⟨rfl, B1.out.alloc B1.out.size _⟩

/-- an entry's first cells -/
structure N4 (w : World) (x : Nat) (a : K) (h : Nat) : Prop where
  c0 : w.cell? ⟨x, 0, none⟩ = some (.int .i64 h)
  c1 : w.cell? ⟨x, 1, none⟩ = some (.int .u64 a.n)
  c2 : w.cell? ⟨x, 2, none⟩ = some (.int .u64 a.d)
  c3 : w.cell? ⟨x, 3, none⟩ = some (.int .i64 a.t)
def C8 (w : World) (x y : Nat) (a b : K) (h k : Nat) : Prop := w.cell? ⟨x, 0, none⟩ = some (.int .i64 h) ∧ w.cell? ⟨x, 1, none⟩ = some (.int .u64 a.n) ∧ w.cell? ⟨x, 2, none⟩ = some (.int .u64 a.d) ∧ w.cell? ⟨x, 3, none⟩ = some (.int .i64 a.t) ∧ w.cell? ⟨y, 0, none⟩ = some (.int .i64 k) ∧ w.cell? ⟨y, 1, none⟩ = some (.int .u64 b.n) ∧ w.cell? ⟨y, 2, none⟩ = some (.int .u64 b.d) ∧ w.cell? ⟨y, 3, none⟩ = some (.int .i64 b.t)
theorem C8.keep {w w1 : World} {x y : Nat} {a b : K} {h k : Nat} (hb : Below w.heap.size w w1) (q : C8 w x y a b h k) : C8 w1 x y a b h k := by
  obtain ⟨q0, q1, q2, q3, q4, q5, q6, q7⟩ := q
  exact ⟨keep1c' hb q0, keep1c' hb q1, keep1c' hb q2, keep1c' hb q3, keep1c' hb q4, keep1c' hb q5, keep1c' hb q6, keep1c' hb q7⟩
theorem keep8 {w w1 : World} {x y : Nat} {a b : K} {h k : Nat} (hb : Below w.heap.size w w1) (q : w.cell? ⟨x, 0, none⟩ = some (.int .i64 h) ∧ w.cell? ⟨x, 1, none⟩ = some (.int .u64 a.n) ∧ w.cell? ⟨x, 2, none⟩ = some (.int .u64 a.d) ∧ w.cell? ⟨x, 3, none⟩ = some (.int .i64 a.t) ∧ w.cell? ⟨y, 0, none⟩ = some (.int .i64 k) ∧ w.cell? ⟨y, 1, none⟩ = some (.int .u64 b.n) ∧ w.cell? ⟨y, 2, none⟩ = some (.int .u64 b.d) ∧ w.cell? ⟨y, 3, none⟩ = some (.int .i64 b.t)) : w1.cell? ⟨x, 0, none⟩ = some (.int .i64 h) ∧ w1.cell? ⟨x, 1, none⟩ = some (.int .u64 a.n) ∧ w1.cell? ⟨x, 2, none⟩ = some (.int .u64 a.d) ∧ w1.cell? ⟨x, 3, none⟩ = some (.int .i64 a.t) ∧ w1.cell? ⟨y, 0, none⟩ = some (.int .i64 k) ∧ w1.cell? ⟨y, 1, none⟩ = some (.int .u64 b.n) ∧ w1.cell? ⟨y, 2, none⟩ = some (.int .u64 b.d) ∧ w1.cell? ⟨y, 3, none⟩ = some (.int .i64 b.t) := C8.keep hb q
theorem C8.al {w : World} {x y : Nat} {a b : K} {h k : Nat} {o : Obj} (q : C8 w x y a b h k) : C8 (w.alloc o) x y a b h k := q.keep ((Below.refl _ _).alloc (Nat.le_refl _) _)
theorem C8.dr {w : World} {x y : Nat} {a b : K} {h k : Nat} (q : C8 w x y a b h k) : C8 w.drew x y a b h k := q
set_option maxHeartbeats 2000000 in
theorem before_raw (w : World) (x y : Nat) (a b : K) (h k : Nat) (o p : Int) (hc : C8 w x y a b h k)
    (H37 : Hid (∀ w, Calls Tryz.prog 99 #[.agg #[.int .u64 a.n, .int .u64 a.d, .int .i64 a.t], .agg #[.int .u64 b.n, .int .u64 b.d, .int .i64 b.t]] w fun e w' => e = .returned (.int .i64 o) ∧ Below w.heap.size w w'))
    (H50 : Hid (∀ w, Calls Tryz.prog 100 #[.int .i64 h, .int .i64 k] w fun e w' => e = .returned (.int .i64 p) ∧ w' = w))
    (HO : Hid (∀ (w : World), Calls Tryz.prog 84 #[.slice (some ⟨w.heap.size, 0, none⟩) 2 2] (w.alloc (.cells #[.int .i64 o, .int .i64 p] 3)) fun e w' => e = .returned (.int .i64 (orI o p)) ∧ w' = w.alloc (.cells #[.int .i64 o, .int .i64 p] 3))) :
    Calls Tryz.prog 74 #[.pointer (some ⟨x, 0, none⟩), .pointer (some ⟨y, 0, none⟩)] w fun e w' => e = .returned (.bool (decide (orI o p < 0))) ∧ Below w.heap.size w w' := by
  go_enter Tryz.func74, Tryz.ntmps74
  go_wp2_with fail
  unfold C8 at hc
  go_region_held3 (fun w' : World => w'.cell? ⟨x, 0, none⟩ = some (.int .i64 h) ∧ w'.cell? ⟨x, 1, none⟩ = some (.int .u64 a.n) ∧ w'.cell? ⟨x, 2, none⟩ = some (.int .u64 a.d) ∧ w'.cell? ⟨x, 3, none⟩ = some (.int .i64 a.t) ∧ w'.cell? ⟨y, 0, none⟩ = some (.int .i64 k) ∧ w'.cell? ⟨y, 1, none⟩ = some (.int .u64 b.n) ∧ w'.cell? ⟨y, 2, none⟩ = some (.int .u64 b.d) ∧ w'.cell? ⟨y, 3, none⟩ = some (.int .i64 b.t)) (repeat' (first | (with_reducible assumption) | (with_reducible refine keep8 b1 ?_) | (with_reducible refine keep1c' b1 ?_) | go_keep)) (first | (go_at_call 99; refine (H37.out _).mono ?_; rintro e w1 ⟨rfl, b1⟩; have y1 := below_from (B := w.heap.size) (w := w) (by go_grown) b1 (by simp)) | (go_at_call 100; refine (H50.out _).mono ?_; rintro e w2 ⟨rfl, rfl⟩) | (go_at_call 84; refine (HO.out _).mono ?_; rintro e w3 ⟨rfl, rfl⟩))
  all_goals go_wp2_with fail
  all_goals go_ret
  all_goals exact ⟨rfl, y1.alloc y1.size _⟩
theorem before_any (w : World) (x y : Nat) (a b : K) (h k : Nat) (ha : a.ok) (hb : b.ok) (hx : N4 w x a h) (hy : N4 w y b k) :
    Calls Tryz.prog 74 #[ptr x, ptr y] w fun e w' => e = .returned (.bool (elB a h b k)) ∧ Below w.heap.size w w' := by
  have := before_raw w x y a b h k (kc a b) (ordI h k) ⟨hx.c0, hx.c1, hx.c2, hx.c3, hy.c0, hy.c1, hy.c2, hy.c3⟩ (fun w => compare_keys a b ha hb w) (fun w => comparei_any h k w)
    (fun w => or_two _ _ w.heap.size 2 _ (Lib.cell_of_heap new0 0) (Lib.cell_of_heap new0 1))
  exact this
end Go.Proofs.YtcgaekaollhmpaaGreat
