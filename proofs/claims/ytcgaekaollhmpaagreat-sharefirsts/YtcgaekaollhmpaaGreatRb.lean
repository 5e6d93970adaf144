/-
  The reference's Cmp.
-/
import Derived.Test.YtcgaekaollhmpaaGreatRa
namespace Go.Proofs.YtcgaekaollhmpaaGreat.Q
def cmpR (a b c d : Nat) : Int × Nat := if b = 0 ∨ d = 0 then (0, 4) else (ord (a * d) (c * b), 0)
end Go.Proofs.YtcgaekaollhmpaaGreat.Q

namespace Go.Proofs.YtcgaekaollhmpaaGreat
open Go.RowKit Go.Sort Big

theorem grown {W : World} {f : FuncId} {args : Array Value} {v : Value} (H : Hid (∀ w, Calls Tryz.prog f args w fun e w' => e = .returned v ∧ RowKit.Below w.heap.size w w')) :
    Hid (∀ d os, Calls Tryz.prog f args (grow (redrawn W d) os) fun e w'' => e = .returned v ∧ ∃ p : Regrown, w'' = grow (redrawn W p.d) p.os) := fun _ _ => Calls.regrown_of (H.out _)

theorem cmp_ofNat {p q : Nat} (hp : p < 2 ^ 256) (hq : q < 2 ^ 256) : Big.cmp (BitVec.ofNat 256 p) (BitVec.ofNat 256 q) = Q.ord p q := by
  unfold Big.cmp Q.ord
  rw [BitVec.toNat_ofNat, BitVec.toNat_ofNat, Nat.mod_eq_of_lt hp, Nat.mod_eq_of_lt hq]

theorem tm_ofNat (a d : Nat) (hd : d < 18446744073709551616) : tm (BitVec.ofNat 256 a) d 64 = BitVec.ofNat 256 (a * d) := by
  unfold tm
  rw [Nat.mod_eq_of_lt (by omega : d < 2 ^ 64), ← BitVec.ofNat_mul]

theorem box2 {w : World} {a b e f : Value} {s t : TypeId} :
    ((w.alloc (.cells #[a, b] s)).alloc (.cells #[e, f] t)).cell? ⟨w.heap.size, 0, none⟩ = some a ∧ ((w.alloc (.cells #[a, b] s)).alloc (.cells #[e, f] t)).cell? ⟨w.heap.size, 1, none⟩ = some b ∧
    ((w.alloc (.cells #[a, b] s)).alloc (.cells #[e, f] t)).cell? ⟨w.heap.size + 1, 0, none⟩ = some e ∧ ((w.alloc (.cells #[a, b] s)).alloc (.cells #[e, f] t)).cell? ⟨w.heap.size + 1, 1, none⟩ = some f :=
  ⟨Lib.cell_of_heap first0 0, Lib.cell_of_heap first0 1, Lib.cell_of_heap first1 0, Lib.cell_of_heap first1 1⟩

set_option maxHeartbeats 1000000 in
set_option maxHeartbeats 1000000 in
theorem rcmp_bad (a b c d : Nat) (w : World) (h : b = 0 ∨ d = 0) :
    Calls Tryz.prog 53 #[.agg #[.int .u64 a, .int .u64 b], .agg #[.int .u64 c, .int .u64 d]] w fun r w' => r = .returned (.tuple #[.int .i64 0, .int .i64 4]) ∧ RowKit.Below w.heap.size w w' := by
  have hc : b = 0 ∨ (((b : Int) == 0) = false ∧ d = 0) := by
    by_cases h1 : b = 0
    · exact .inl h1
    · exact .inr ⟨by simp; omega, by omega⟩
  clear h
  rcases hc with rfl | ⟨h1, rfl⟩
  all_goals go_enter Tryz.func53, Tryz.ntmps53
  all_goals go_wp2_with fail
  all_goals go_returns
  all_goals exact ⟨rfl, ((Below.refl _ w).alloc (Nat.le_refl _) _).alloc (by simp) _⟩

set_option maxHeartbeats 2000000 in
theorem rcmp_small (a b c d m1 m2 : Nat) (o : Int) (A1 A2 : Array Value) (w : World) (hb0 : ((b : Int) == 0) = false) (hd0 : ((d : Int) == 0) = false)
    (ha : (a : Int) < 4294967296) (hb : (b : Int) < 4294967296) (hc : (c : Int) < 4294967296) (hd : (d : Int) < 4294967296)
    (e1 : IntKind.u64.wrap ((a : Int) * (d : Int)) = (m1 : Int)) (e2 : IntKind.u64.wrap ((c : Int) * (b : Int)) = (m2 : Int))
    (O1 : Hid (∀ w, Calls Tryz.prog 80 #[.int .u64 m1] w fun r w' => r = .returned (.agg A1) ∧ RowKit.Below w.heap.size w w'))
    (O2 : Hid (∀ w, Calls Tryz.prog 80 #[.int .u64 m2] w fun r w' => r = .returned (.agg A2) ∧ RowKit.Below w.heap.size w w'))
    (C : Hid (∀ w, Calls Tryz.prog 79 #[.agg A1, .agg A2] w fun r w' => r = .returned (.int .i64 o) ∧ RowKit.Below w.heap.size w w')) :
    Calls Tryz.prog 53 #[.agg #[.int .u64 a, .int .u64 b], .agg #[.int .u64 c, .int .u64 d]] w fun r w' => r = .returned (.tuple #[.int .i64 o, .int .i64 0]) ∧ RowKit.Below w.heap.size w w' := by
  go_enter Tryz.func53, Tryz.ntmps53
  go_upto_region 4 with fail
  have hbl : RowKit.Below w.heap.size w ((w.alloc (.cells #[.int .u64 a, .int .u64 b] 77)).alloc (.cells #[.int .u64 c, .int .u64 d] 77)) := ((Below.refl _ w).alloc (Nat.le_refl _) _).alloc (by simp) _
  obtain ⟨k0, k1, k2, k3⟩ := box2 (w := w) (a := .int .u64 a) (b := .int .u64 b) (e := .int .u64 c) (f := .int .u64 d) (s := 77) (t := 77)
  generalize ((w.alloc (.cells #[.int .u64 a, .int .u64 b] 77)).alloc (.cells #[.int .u64 c, .int .u64 d] 77)) = W at *
  have n0 := cell_regrown k0
  have n1 := cell_regrown k1
  have n2 := cell_regrown k2
  have n3 := cell_regrown k3
  have G1 := grown (W := W) O1
  have G2 := grown (W := W) O2
  have G3 := grown (W := W) C
  clear O1 O2 C
  refine wp_region_quiet_below (by kernel_rfl) (by kernel_rfl) ?_
  repeat (quiet_step (first | (go_at_call_of 80 (Value.int .u64 (m1 : Int)); exact G1.out _ _) | (go_at_call_of 80 (Value.int .u64 (m2 : Int)); exact G2.out _ _) | (go_at_call 79; exact G3.out _ _)))
  refine wpQuiet_nil ?_
  intro _ hw'
  obtain ⟨⟨dq, osq⟩, hw''⟩ := hw'
  subst hw''
  go_wp2_with fail
  go_returns
  exact ⟨rfl, below_from hbl (below_regrown W dq osq) hbl.size⟩

set_option maxHeartbeats 4000000 in
theorem rcmp_big (a b c d : Nat) (o : Int) (A1 A2 B1 B2 : Array Value) (w : World) (hb0 : ((b : Int) == 0) = false) (hd0 : ((d : Int) == 0) = false)
    (hcase : decide ((a : Int) < 4294967296) = false ∨ ((a : Int) < 4294967296 ∧ decide ((b : Int) < 4294967296) = false) ∨ ((a : Int) < 4294967296 ∧ (b : Int) < 4294967296 ∧ decide ((c : Int) < 4294967296) = false) ∨ ((a : Int) < 4294967296 ∧ (b : Int) < 4294967296 ∧ (c : Int) < 4294967296 ∧ decide ((d : Int) < 4294967296) = false))
    (O1 : Hid (∀ w, Calls Tryz.prog 80 #[.int .u64 a] w fun r w' => r = .returned (.agg A1) ∧ RowKit.Below w.heap.size w w'))
    (O2 : Hid (∀ w, Calls Tryz.prog 80 #[.int .u64 c] w fun r w' => r = .returned (.agg A2) ∧ RowKit.Below w.heap.size w w'))
    (T1 : Hid (∀ w, Calls Tryz.prog 81 #[.agg A1, .int .u64 d] w fun r w' => r = .returned (.agg B1) ∧ RowKit.Below w.heap.size w w'))
    (T2 : Hid (∀ w, Calls Tryz.prog 81 #[.agg A2, .int .u64 b] w fun r w' => r = .returned (.agg B2) ∧ RowKit.Below w.heap.size w w'))
    (C : Hid (∀ w, Calls Tryz.prog 79 #[.agg B1, .agg B2] w fun r w' => r = .returned (.int .i64 o) ∧ RowKit.Below w.heap.size w w')) :
    Calls Tryz.prog 53 #[.agg #[.int .u64 a, .int .u64 b], .agg #[.int .u64 c, .int .u64 d]] w fun r w' => r = .returned (.tuple #[.int .i64 o, .int .i64 0]) ∧ RowKit.Below w.heap.size w w' := by
  have hbl : RowKit.Below w.heap.size w ((w.alloc (.cells #[.int .u64 a, .int .u64 b] 77)).alloc (.cells #[.int .u64 c, .int .u64 d] 77)) := ((Below.refl _ w).alloc (Nat.le_refl _) _).alloc (by simp) _
  obtain ⟨k0, k1, k2, k3⟩ := box2 (w := w) (a := .int .u64 a) (b := .int .u64 b) (e := .int .u64 c) (f := .int .u64 d) (s := 77) (t := 77)
  have HB : Hid (RowKit.Below w.heap.size w ((w.alloc (.cells #[.int .u64 a, .int .u64 b] 77)).alloc (.cells #[.int .u64 c, .int .u64 d] 77))) := hbl
  have n0 := cell_regrown k0
  have n1 := cell_regrown k1
  have n2 := cell_regrown k2
  have n3 := cell_regrown k3
  have N : Hid ((∀ d' os, _) ∧ (∀ d' os, _) ∧ (∀ d' os, _) ∧ (∀ d' os, _)) := ⟨n0, n1, n2, n3⟩
  clear n0 n1 n2 n3 hbl k0 k1 k2 k3
  rcases hcase with h1 | ⟨h1, h2⟩ | ⟨h1, h2, h3⟩ | ⟨h1, h2, h3, h4⟩
  all_goals go_enter Tryz.func53, Tryz.ntmps53
  all_goals go_upto_region 5 with fail
  all_goals
    obtain ⟨n0, n1, n2, n3⟩ := N.out
    clear N
    generalize ((w.alloc (.cells #[.int .u64 a, .int .u64 b] 77)).alloc (.cells #[.int .u64 c, .int .u64 d] 77)) = W at *
    have G1 := grown (W := W) O1
    have G2 := grown (W := W) O2
    have G3 := grown (W := W) T1
    have G4 := grown (W := W) T2
    have G5 := grown (W := W) C
    clear O1 O2 T1 T2 C
    refine wp_region_quiet_below (by kernel_rfl) (by kernel_rfl) ?_
    repeat (quiet_step (first | (go_at_call_of 80 (Value.int .u64 (a : Int)); exact G1.out _ _) | (go_at_call_of 80 (Value.int .u64 (c : Int)); exact G2.out _ _) | (go_at_call_of 81 (Value.agg A1); exact G3.out _ _) | (go_at_call_of 81 (Value.agg A2); exact G4.out _ _) | (go_at_call 79; exact G5.out _ _)))
    refine wpQuiet_nil ?_
    intro _ hw'
    obtain ⟨⟨dq, osq⟩, hw''⟩ := hw'
    subst hw''
    go_wp2_with fail
    go_returns
    exact ⟨rfl, below_from HB.out (below_regrown W dq osq) HB.out.size⟩

theorem rcmp_any (a b c d : Nat) (w : World) (ha : a < 18446744073709551616) (hb : b < 18446744073709551616) (hc : c < 18446744073709551616) (hd : d < 18446744073709551616) :
    Calls Tryz.prog 53 #[.agg #[.int .u64 a, .int .u64 b], .agg #[.int .u64 c, .int .u64 d]] w fun r w' => r = ansC (Q.cmpR a b c d) ∧ RowKit.Below w.heap.size w w' := by
  unfold Q.cmpR
  by_cases h : b = 0 ∨ d = 0
  · rw [if_pos h]; exact rcmp_bad a b c d w h
  · rw [if_neg h]
    have hb0 : ((b : Int) == 0) = false := by simp; omega
    have hd0 : ((d : Int) == 0) = false := by simp; omega
    have p1 : a * d < 18446744073709551616 * 18446744073709551616 := Nat.mul_lt_mul'' ha hd
    have p2 : c * b < 18446744073709551616 * 18446744073709551616 := Nat.mul_lt_mul'' hc hb
    have q1 : a * d < 2 ^ 256 := Nat.lt_trans p1 (by decide)
    have q2 : c * b < 2 ^ 256 := Nat.lt_trans p2 (by decide)
    by_cases hs : a < 4294967296 ∧ b < 4294967296 ∧ c < 4294967296 ∧ d < 4294967296
    · have s1 : a * d < 4294967296 * 4294967296 := Nat.mul_lt_mul'' hs.1 hs.2.2.2
      have s2 : c * b < 4294967296 * 4294967296 := Nat.mul_lt_mul'' hs.2.2.1 hs.2.1
      have := rcmp_small a b c d (a * d) (c * b) (Q.ord (a * d) (c * b)) (bigR (BitVec.ofNat 256 (a * d))) (bigR (BitVec.ofNat 256 (c * b))) w hb0 hd0 (by omega) (by omega) (by omega) (by omega)
        (by rw [show (a : Int) * (d : Int) = ((a * d : Nat) : Int) by simp, IntKind.wrap_u64]; omega) (by rw [show (c : Int) * (b : Int) = ((c * b : Nat) : Int) by simp, IntKind.wrap_u64]; omega)
        (fun w => of_any (a * d) w (by omega)) (fun w => of_any (c * b) w (by omega)) (fun w => by have := bigcmp_any (BitVec.ofNat 256 (a * d)) (BitVec.ofNat 256 (c * b)) w; rwa [cmp_ofNat q1 q2] at this)
      exact this
    · have hcase : decide ((a : Int) < 4294967296) = false ∨ ((a : Int) < 4294967296 ∧ decide ((b : Int) < 4294967296) = false) ∨ ((a : Int) < 4294967296 ∧ (b : Int) < 4294967296 ∧ decide ((c : Int) < 4294967296) = false) ∨ ((a : Int) < 4294967296 ∧ (b : Int) < 4294967296 ∧ (c : Int) < 4294967296 ∧ decide ((d : Int) < 4294967296) = false) := by
        simp only [decide_eq_false_iff_not]
        omega
      have := rcmp_big a b c d (Q.ord (a * d) (c * b)) (bigR (BitVec.ofNat 256 a)) (bigR (BitVec.ofNat 256 c)) (bigR (BitVec.ofNat 256 (a * d))) (bigR (BitVec.ofNat 256 (c * b))) w hb0 hd0 hcase
        (fun w => of_any a w ha) (fun w => of_any c w hc) (fun w => by have := times_big (BitVec.ofNat 256 a) d w hd; rwa [tm_ofNat a d hd] at this) (fun w => by have := times_big (BitVec.ofNat 256 c) b w hb; rwa [tm_ofNat c b hb] at this)
        (fun w => by have := bigcmp_any (BitVec.ofNat 256 (a * d)) (BitVec.ofNat 256 (c * b)) w; rwa [cmp_ofNat q1 q2] at this)
      exact this

end Go.Proofs.YtcgaekaollhmpaaGreat
