/-
  WorkerStale's law.
-/
import Derived.Test.YtihjmigjphljnaaLa
import Derived.Test.YtihjmigjphljnaaBf
namespace Go.Proofs.Ytihjmigjphljnaa
open Go.RowKit Go.Maps Go.WideMaps
open Tk

def vB (v : V) : Obj := .cells #[.int .i64 v.a, .int .i64 v.b, .int .i64 v.c, .int .i64 v.d] 32 (0, 0)
def nB (n : Nd) : Obj := .cells #[.string n.nm, .int .i64 n.ep, .int .i64 n.v.a, .int .i64 n.v.b, .int .i64 n.v.c, .int .i64 n.v.d, .int .i64 n.sn, .bool n.lv] 46 (0, 0)
def n1 (old : Int) : Nd := ⟨nA, old, ⟨1, 0, 0, 0⟩, 0, true⟩
def n2 (k now : Int) : Nd := ⟨nA, k, ⟨2, 0, 0, 0⟩, now, true⟩
set_option maxHeartbeats 8000000 in
set_option maxRecDepth 100000 in
theorem stale_law (e l now : Nat) (he : e < 4294967296) (hl : l < 4294967296) (hnow : now < 65536) (v : V) (w : World) :
    Calls Try.prog 6 #[.agg #[.int .u32 e, .int .u32 l], .agg #[.int .i64 v.a, .int .i64 v.b, .int .i64 v.c, .int .i64 v.d], .int .u16 now] w fun e w' => e = .returned (.bool true) ∧ Below w.heap.size w w' := by
  obtain ⟨r, hr⟩ : ∃ r : Nat, r = e % 1000000 := ⟨_, rfl⟩
  obtain ⟨k, hk⟩ : ∃ k : Nat, k = 2 + r := ⟨_, rfl⟩
  obtain ⟨s, hs⟩ : ∃ s : Nat, s = l % (k - 1) := ⟨_, rfl⟩
  obtain ⟨old, hold⟩ : ∃ old : Nat, old = k - 1 - s := ⟨_, rfl⟩
  have hr1 : r < 1000000 := by omega
  have hs1 : s < k - 1 := by rw [hs]; exact Nat.mod_lt _ (by omega)
  have A1 : (e : Int).tmod 1000000 = (r : Int) := by rw [Int.tmod_eq_emod_of_nonneg (by omega)]; omega
  have A2 : (e : Int) % 1000000 = (r : Int) := by omega
  have A3 : IntKind.i64.wrap (2 + (r : Int)) = (k : Int) := by rw [IntKind.wrap_i64]; omega
  have A4 : IntKind.i64.wrap ((k : Int) - 1) = ((k - 1 : Nat) : Int) := by rw [IntKind.wrap_i64]; omega
  have A5 : (l : Int).tmod ((k - 1 : Nat) : Int) = (s : Int) := by rw [Int.tmod_eq_emod_of_nonneg (by omega), hs]; exact (Int.natCast_emod l (k - 1)).symm
  have A6 : (l : Int) % ((k - 1 : Nat) : Int) = (s : Int) := by rw [hs]; exact (Int.natCast_emod l (k - 1)).symm
  have A7 : IntKind.i64.wrap (((k - 1 : Nat) : Int) - (s : Int)) = (old : Int) := by rw [IntKind.wrap_i64]; omega
  have A8 : IntKind.i64.wrap ((now : Int) + 1) = (now : Int) + 1 := by rw [IntKind.wrap_i64]; omega
  have A9 : ((k - 1 : Nat) : Int) ≠ 0 := by omega
  have B1 : IntKind.i64.wrap (r : Int) = (r : Int) := by rw [IntKind.wrap_i64]; omega
  have B2 : IntKind.i64.wrap (l : Int) = (l : Int) := by rw [IntKind.wrap_i64]; omega
  have B3 : IntKind.i64.wrap (now : Int) = (now : Int) := by rw [IntKind.wrap_i64]; omega
  have B4 : IntKind.u32.wrap (r : Int) = (r : Int) := by rw [IntKind.wrap_u32]; omega
  have B5 : IntKind.i64.wrap (s : Int) = (s : Int) := by rw [IntKind.wrap_i64]; omega
  have hk1 : Hid (1 ≤ old ∧ old < k ∧ k ≤ 1000001 ∧ now < 65536) := ⟨by omega, by omega, by omega, hnow⟩
  have hke : ((old : Int) == (k : Int)) = false := by simp; omega
  clear hr hk hs hold hr1 hs1 he hl hnow
  obtain ⟨f, hf⟩ : ∃ f : Int, f = if v.ok then 14 else 4 := ⟨_, rfl⟩
  have hf2 : f = 14 ∨ f = 4 := by rw [hf]; cases v.ok <;> simp
  have HA : Hid (∀ W, Calls Try.prog 9 #[] W fun e w' => e = .returned (.bool true) ∧ Hid (Below W.heap.size W w')) := awake_any
  have C1 : Hid (∀ W K tb, LL w W K tb [] → Calls Try.prog 18 #[.pointer (some ⟨tb, 0, none⟩), .string ⟨#[97]⟩, .int .i64 (old : Int), .agg #[.int .i64 1, .int .i64 0, .int .i64 0, .int .i64 0], .int .i64 0] W fun e w' => e = .returned (.tuple #[.bool false, .int .i64 0]) ∧ Hid (LL w w' K tb [n1 old])) := fun W K tb h => by
    have := ll_reg h nA (by decide) old 0 ⟨1, 0, 0, 0⟩
    rw [reg_empty name_A (by decide) ⟨⟨by have := hk1.out; omega, by have := hk1.out; omega⟩, by decide, by decide⟩] at this
    exact this
  have C2 : Hid (∀ W K tb, LL w W K tb [n1 old] → Calls Try.prog 18 #[.pointer (some ⟨tb, 0, none⟩), .string ⟨#[97]⟩, .int .i64 (k : Int), .agg #[.int .i64 2, .int .i64 0, .int .i64 0, .int .i64 0], .int .i64 (now : Int)] W fun e w' => e = .returned (.tuple #[.bool true, .int .i64 0]) ∧ Hid (LL w w' K tb [n2 k now])) := fun W K tb h => by
    have := ll_reg h nA (by decide) k now ⟨2, 0, 0, 0⟩
    have hq := hk1.out
    rw [reg_again (s := nA) (n := n1 old) rfl name_A (by decide) ⟨⟨by omega, by omega⟩, by omega, by omega⟩ (by show (old : Int) < k; omega)] at this
    exact this
  have C3 : Hid (∀ W K tb, LL w W K tb [n2 k now] → Calls Try.prog 21 #[.pointer (some ⟨tb, 0, none⟩), .string ⟨#[97]⟩] W fun e w' => e = .returned (.tuple #[.agg #[.string ⟨#[97]⟩, .int .i64 (k : Int), .int .i64 2, .int .i64 0, .int .i64 0, .int .i64 0, .int .i64 (now : Int), .bool true], .int .i64 0]) ∧ Hid (LL w w' K tb [n2 k now])) := fun W K tb h => by
    have := ll_get h nA (by decide)
    unfold getR at this
    rw [fnd_one (show (n2 k now).k = nA.data.toList from rfl)] at this
    exact this
  have C4 : Hid (∀ W K tb, LL w W K tb [n2 k now] → Calls Try.prog 19 #[.pointer (some ⟨tb, 0, none⟩), .string ⟨#[97]⟩, .int .i64 (old : Int), .int .i64 ((now : Int) + 1)] W fun e w' => e = .returned (.int .i64 14) ∧ Hid (LL w w' K tb [n2 k now])) := fun W K tb h => by
    have := ll_beat h nA (by decide) old (now + 1)
    have hq := hk1.out
    unfold beatR at this
    rw [fnd_one (show (n2 k now).k = nA.data.toList from rfl)] at this
    simp only at this
    rw [if_neg (by rintro ⟨q, -⟩; have q : (old : Int) = k := q; omega)] at this
    exact this
  have C5 : Hid (∀ W K tb (x : Int), ((1 : Int) ≤ x ∧ x ≤ k) → LL w W K tb [n2 k now] → Calls Try.prog 18 #[.pointer (some ⟨tb, 0, none⟩), .string ⟨#[97]⟩, .int .i64 x, .agg #[.int .i64 v.a, .int .i64 v.b, .int .i64 v.c, .int .i64 v.d], .int .i64 ((now : Int) + 1)] W fun e w' => e = .returned (.tuple #[.bool false, .int .i64 f]) ∧ Hid (LL w w' K tb [n2 k now])) := fun W K tb x hx h => by
    have := ll_reg h nA (by decide) x (now + 1) v
    have hq := hk1.out
    rw [reg_past (s := nA) (n := n2 k now) rfl name_A ⟨⟨by omega, by omega⟩, by omega, by omega⟩ hx.2, ← hf] at this
    exact this
  have HX : Hid ((1 : Int) ≤ old ∧ (old : Int) ≤ k ∧ (1 : Int) ≤ k) := by have hq := hk1.out; exact ⟨by omega, by omega, by omega⟩
  clear hf hk1
  have Z0 : Hid (Below w.heap.size w ((w.alloc (.cells #[.int .u32 e, .int .u32 l] 53)).alloc (.cells #[.int .i64 v.a, .int .i64 v.b, .int .i64 v.c, .int .i64 v.d] 32)) ∧ ((w.alloc (.cells #[.int .u32 e, .int .u32 l] 53)).alloc (.cells #[.int .i64 v.a, .int .i64 v.b, .int .i64 v.c, .int .i64 v.d] 32)).heap[w.heap.size + 1]? = some (vB v)) := ⟨((Below.refl _ w).alloc (Nat.le_refl _) _).alloc (by simp) _, new1⟩
  have x0 : ((w.alloc (.cells #[.int .u32 e, .int .u32 l] 53)).alloc (.cells #[.int .i64 v.a, .int .i64 v.b, .int .i64 v.c, .int .i64 v.d] 32)).cell? ⟨w.heap.size, 0, none⟩ = some (.int .u32 e) := by rw [cell_of (at_alloc new0)]; rfl
  have x1 : ((w.alloc (.cells #[.int .u32 e, .int .u32 l] 53)).alloc (.cells #[.int .i64 v.a, .int .i64 v.b, .int .i64 v.c, .int .i64 v.d] 32)).cell? ⟨w.heap.size, 1, none⟩ = some (.int .u32 l) := by rw [cell_of (at_alloc new0)]; rfl
  have q46 := eq46 ⟨#[97]⟩ (k : Int) 2 0 0 0 (now : Int) true
  go_enter Try.func6, Try.ntmps6
  go_upto_region 1 with fail
  generalize ((w.alloc (.cells #[.int .u32 e, .int .u32 l] 53)).alloc (.cells #[.int .i64 v.a, .int .i64 v.b, .int .i64 v.c, .int .i64 v.d] 32)) = W0 at *
  go_region
  go_upto_region 4 with (go_at_call 9; refine (HA.out _).mono ?_; rintro e w1 ⟨rfl, hb1⟩)
  have Z1 : Hid (Below w.heap.size w w1 ∧ w1.heap[w.heap.size + 1]? = some (vB v)) := by
    have b2 : Below W0.heap.size W0 w1 := below_from (below_drewN (Below.refl _ W0) 1) hb1.out (Nat.le_refl _)
    exact ⟨below_from Z0.out.1 b2 Z0.out.1.size, at_below b2 (Nat.le_refl _) Z0.out.2⟩
  clear Z0 x0 x1 hb1 HA
  go_upto_region 7 with (go_at_call 10; refine (new_any _).mono ?_; rintro e w2 ⟨rfl, rfl⟩)
  have L0 : Hid (LL w (w1.alloc (.cells #[.map none, .slice none 0 0, .map none] 63 (0, 0))) (XS NX (w.heap.size + 1) (vB v)) w1.heap.size []) := ll_new Z1.out.1 (kept_add (kept_none w1) (Below.refl _ w1) Z1.out.2)
  clear Z1
  generalize w1.alloc (.cells #[.map none, .slice none 0 0, .map none] 63) = W2 at *
  generalize w1.heap.size = tb at *
  go_upto_region 9 with (first | (go_at_call 18; refine (C1.out _ _ _ L0.out).mono ?_; rintro e w3 ⟨rfl, L1⟩; clear C1 L0) | (go_at_call 18; refine (C2.out _ _ _ L1.out).mono ?_; rintro e w4 ⟨rfl, L2⟩; clear C2 L1))
  go_upto_region 10 with (go_at_call 21; refine (C3.out _ _ _ L2.out).mono ?_; rintro e w5 ⟨rfl, L3⟩)
  have L4 : Hid (LL w (w5.alloc (.cells #[.string ⟨#[97]⟩, .int .i64 (k : Int), .int .i64 2, .int .i64 0, .int .i64 0, .int .i64 0, .int .i64 (now : Int), .bool true] 46 (0, 0))) (XS (XS NX (w.heap.size + 1) (vB v)) w5.heap.size (nB (n2 k now))) tb [n2 k now]) := L3.out.add ((Below.refl _ w5).alloc (Nat.le_refl _) _) new0 (Nat.le_refl _)
  have hg : w5.heap.size ≠ w.heap.size + 1 := by
    have h1 := L3.out.kept (w.heap.size + 1) (vB v) (by unfold XS; rw [if_pos rfl])
    have := (Array.getElem?_eq_some_iff.1 h1).1
    omega
  clear L2 L3
  generalize w5.alloc (.cells #[.string ⟨#[97]⟩, .int .i64 (k : Int), .int .i64 2, .int .i64 0, .int .i64 0, .int .i64 0, .int .i64 (now : Int), .bool true] 46) = W5 at *
  generalize w5.heap.size = gn at *
  have KV : Hid (∀ W, LL w W (XS (XS NX (w.heap.size + 1) (vB v)) gn (nB (n2 k now))) tb [n2 k now] → (W.cell? ⟨w.heap.size + 1, 0, none⟩ = some (.int .i64 v.a) ∧ W.cell? ⟨w.heap.size + 1, 1, none⟩ = some (.int .i64 v.b) ∧ W.cell? ⟨w.heap.size + 1, 2, none⟩ = some (.int .i64 v.c) ∧ W.cell? ⟨w.heap.size + 1, 3, none⟩ = some (.int .i64 v.d)) ∧ W.heap[gn]? = some (nB (n2 k now))) := fun W h => by
    have h1 := h.kept (w.heap.size + 1) (vB v) (by unfold XS; rw [if_neg (fun q => hg q.symm), if_pos rfl])
    have h2 := h.kept gn (nB (n2 k now)) (by unfold XS; rw [if_pos rfl])
    obtain ⟨d0, d1, d2, d3, -⟩ := cells4 h1
    exact ⟨⟨d0, d1, d2, d3⟩, h2⟩
  have z1 : W5.cell? ⟨gn, 1, none⟩ = some (.int .i64 (k : Int)) := by rw [cell_of (KV.out _ L4.out).2]; rfl
  go_upto_region 12 with (go_at_call 19; refine (C4.out _ _ _ L4.out).mono ?_; rintro e w6 ⟨rfl, L5⟩)
  clear z1 L4 C4
  obtain ⟨d0, d1, d2, d3⟩ := (KV.out _ L5.out).1
  go_upto_region 13 with (go_at_call 18; refine (C5.out _ _ _ _ ⟨HX.out.1, HX.out.2.1⟩ L5.out).mono ?_; rintro e w7 ⟨rfl, L6⟩)
  clear d0 d1 d2 d3 L5
  obtain ⟨d0, d1, d2, d3⟩ := (KV.out _ L6.out).1
  go_upto_region 14 with (go_at_call 18; refine (C5.out _ _ _ _ ⟨HX.out.2.2, Int.le_refl _⟩ L6.out).mono ?_; rintro e w8 ⟨rfl, L7⟩)
  clear d0 d1 d2 d3 L6
  go_upto_region 15 with (go_at_call 21; refine (C3.out _ _ _ L7.out).mono ?_; rintro e w9 ⟨rfl, L8⟩)
  have b9 : Below w9.heap.size w9 (w9.alloc (.cells #[.string ⟨#[97]⟩, .int .i64 (k : Int), .int .i64 2, .int .i64 0, .int .i64 0, .int .i64 0, .int .i64 (now : Int), .bool true] 46)) := (Below.refl _ w9).alloc (Nat.le_refl _) _
  have L9 : Hid _ := L8.out.below b9
  have Zm : Hid ((w9.alloc (.cells #[.string ⟨#[97]⟩, .int .i64 (k : Int), .int .i64 2, .int .i64 0, .int .i64 0, .int .i64 0, .int .i64 (now : Int), .bool true] 46)).heap[w9.heap.size]? = some (.cells #[.string ⟨#[97]⟩, .int .i64 (k : Int), .int .i64 2, .int .i64 0, .int .i64 0, .int .i64 0, .int .i64 (now : Int), .bool true] 46 (0, 0))) := new0
  clear L7 L8 b9
  generalize (w9.alloc (.cells #[.string ⟨#[97]⟩, .int .i64 (k : Int), .int .i64 2, .int .i64 0, .int .i64 0, .int .i64 0, .int .i64 (now : Int), .bool true] 46)) = W9 at *
  generalize w9.heap.size = gm at *
  have Zn : Hid (W9.heap[gn]? = some (.cells #[.string ⟨#[97]⟩, .int .i64 (k : Int), .int .i64 2, .int .i64 0, .int .i64 0, .int .i64 0, .int .i64 (now : Int), .bool true] 46 (0, 0))) := (KV.out _ L9.out).2
  have a0 : W9.cell? ⟨gm, 0, none⟩ = some (.string ⟨#[97]⟩) := by rw [cell_of Zm.out]; rfl
  have a1 : W9.cell? ⟨gm, 1, none⟩ = some (.int .i64 (k : Int)) := by rw [cell_of Zm.out]; rfl
  have a2 : W9.cell? ⟨gm, 2, none⟩ = some (.int .i64 2) := by rw [cell_of Zm.out]; rfl
  have a3 : W9.cell? ⟨gm, 3, none⟩ = some (.int .i64 0) := by rw [cell_of Zm.out]; rfl
  have a4 : W9.cell? ⟨gm, 4, none⟩ = some (.int .i64 0) := by rw [cell_of Zm.out]; rfl
  have a5 : W9.cell? ⟨gm, 5, none⟩ = some (.int .i64 0) := by rw [cell_of Zm.out]; rfl
  have a6 : W9.cell? ⟨gm, 6, none⟩ = some (.int .i64 (now : Int)) := by rw [cell_of Zm.out]; rfl
  have a7 : W9.cell? ⟨gm, 7, none⟩ = some (.bool true) := by rw [cell_of Zm.out]; rfl
  have c0 : W9.cell? ⟨gn, 0, none⟩ = some (.string ⟨#[97]⟩) := by rw [cell_of Zn.out]; rfl
  have c1 : W9.cell? ⟨gn, 1, none⟩ = some (.int .i64 (k : Int)) := by rw [cell_of Zn.out]; rfl
  have c2 : W9.cell? ⟨gn, 2, none⟩ = some (.int .i64 2) := by rw [cell_of Zn.out]; rfl
  have c3 : W9.cell? ⟨gn, 3, none⟩ = some (.int .i64 0) := by rw [cell_of Zn.out]; rfl
  have c4 : W9.cell? ⟨gn, 4, none⟩ = some (.int .i64 0) := by rw [cell_of Zn.out]; rfl
  have c5 : W9.cell? ⟨gn, 5, none⟩ = some (.int .i64 0) := by rw [cell_of Zn.out]; rfl
  have c6 : W9.cell? ⟨gn, 6, none⟩ = some (.int .i64 (now : Int)) := by rw [cell_of Zn.out]; rfl
  have c7 : W9.cell? ⟨gn, 7, none⟩ = some (.bool true) := by rw [cell_of Zn.out]; rfl
  have YY : Hid (Below w.heap.size w W9) := L9.out.bel
  clear KV L9 Zm Zn C3 C5 HX
  rcases hf2 with rfl | rfl
  all_goals go_wp2_with fail
  all_goals go_ret
  all_goals exact ⟨rfl, YY.out⟩
end Go.Proofs.Ytihjmigjphljnaa
