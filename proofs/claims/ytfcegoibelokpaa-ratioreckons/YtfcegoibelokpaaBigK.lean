/-
  The contract of the reference's gcd on 256 bits.
-/
import Derived.Test.YtfcegoibelokpaaBigI
namespace Go.Proofs.Ytfcegoibelokpaa
open Go.RowKit Big

theorem bigR_inj {x y : W} (h : bigR x = bigR y) : x = y := by
  apply BitVec.eq_of_getLsbD_eq
  intro i hi
  have h1 := bigR_get x i hi
  have h2 := bigR_get y i hi
  rw [h, h2] at h1
  simpa using h1.symm

theorem measure_row (g : Nat) : ∃ μ : World → Nat, ∀ wr y, Row wr g (bigR y) → μ wr = y.toNat := by
  refine ⟨fun wr => Classical.epsilon (fun n => ∃ y : W, Row wr g (bigR y) ∧ n = y.toNat), fun wr y h => ?_⟩
  have hs := Classical.epsilon_spec (p := fun n => ∃ y : W, Row wr g (bigR y) ∧ n = y.toNat) ⟨y.toNat, y, h, rfl⟩
  obtain ⟨z, hz, e⟩ := hs
  refine e.trans ?_
  have : bigR z = bigR y := by
    have := hz.symm.trans h
    simpa using this
  rw [bigR_inj this]

theorem ofNat_toNat (x : W) : BitVec.ofNat 256 x.toNat = x := by simp

set_option maxHeartbeats 4000000 in
set_option maxRecDepth 100000 in
theorem gcd_big (a b : W) (w : World) (hb2 : b.toNat ≤ 2 ^ 255) :
    Calls Try.prog 42 #[.agg (bigR a), .agg (bigR b)] w fun e w' => e = .returned (.agg (bigR (BitVec.ofNat 256 (a.toNat.gcd b.toNat)))) ∧ Below w.heap.size w w' := by
  have hz := zero48
  obtain ⟨μ, hμ⟩ := measure_row (w.heap.size + 1)
  have HMU : Hid (∀ wr y, Row wr (w.heap.size + 1) (bigR y) → μ wr = y.toNat) := hμ
  have HZ : Hid (∀ (x : W) (w : World), Calls Try.prog 48 #[.agg (bigR x)] w fun e w' => e = .returned (.bool (decide (x.toNat = 0))) ∧ Below w.heap.size w w') := fun x w => zero_any x w
  have HD : Hid (∀ (x y : W) (w : World), 0 < y.toNat → y.toNat ≤ 2 ^ 255 → Calls Try.prog 43 #[.agg (bigR x), .agg (bigR y)] w fun e w' => e = .returned (.tuple #[.agg (bigR (BitVec.ofNat 256 (x.toNat / y.toNat))), .agg (bigR (BitVec.ofNat 256 (x.toNat % y.toNat)))]) ∧ Below w.heap.size w w') := fun x y w h1 h2 => divided_any x y w h1 h2
  have HB2 : Hid (b.toNat ≤ 2 ^ 255) := hb2
  clear hb2 hμ
  generalize hG : BitVec.ofNat 256 (a.toNat.gcd b.toNat) = G at *
  have HG : Hid (BitVec.ofNat 256 (a.toNat.gcd b.toNat) = G) := hG
  clear hG
  go_enter Try.func42, Try.ntmps42
  go_wp2_with fail
  go_loopw [7] (fun _ wr => ∃ x y : W, x.toNat.gcd y.toNat = a.toNat.gcd b.toNat ∧ y.toNat ≤ 2 ^ 255 ∧ Row wr w.heap.size (bigR x) ∧ Row wr (w.heap.size + 1) (bigR y) ∧ Row wr (w.heap.size + 1 + 1) (bigR 0) ∧ Below w.heap.size w wr) (fun _ wr => μ wr)
  case atStart =>
    refine ⟨a, b, rfl, HB2.out, ?_, ?_, ?_, ?_⟩
    · exact ((row_new w _ _ rfl).alloc _).alloc _
    · exact (row_new _ _ _ (by simp)).alloc _
    · exact row_new _ _ _ (by simp)
    · exact (((Below.refl _ w).alloc (Nat.le_refl _) _).alloc (by simp) _).alloc (by simp; omega) _
  case round =>
    obtain ⟨x, y, hg, hy, r0, r1, r2, hbl⟩ := hrel
    have HB : Hid (Below w.heap.size w wr) := hbl
    have HGG : Hid (x.toNat.gcd y.toNat = a.toNat.gcd b.toNat) := hg
    have HY : Hid (y.toNat ≤ 2 ^ 255) := hy
    have HM1 : Hid (μ wr = y.toNat) := HMU.out wr y r1
    clear hbl hg hy
    by_cases h0 : y.toNat = 0
    · have HX : Hid (bigR x = bigR G) := by
        rw [← HG.out, ← HGG.out, h0, Nat.gcd_zero_right, ofNat_toNat]; exact rfl
      have HZ' : Hid (∀ (w : World), Calls Try.prog 48 #[.agg (bigR y)] w fun e w' => e = .returned (.bool true) ∧ Below w.heap.size w w') := fun w => by have := HZ.out y w; rwa [decide_eq_true h0] at this
      clear h0 HZ HD
      go_upto_region 1 with fail
      go_wp2_with (first | refine wpList_load_row rfl 48 _ rfl (w.heap.size + 1) rfl 48 (bigR y) (0, 0) _ r1 Try.underlying48 rfl (size48 _) ?_ | (go_at_call 48; refine (HZ'.out _).mono ?_))
      rintro e w1 ⟨rfl, b1⟩
      have q0 := Row.later r0 b1 (Row.lt r0)
      have q2 := Row.later r2 b1 (Row.lt r2)
      have y1 : Hid (Below w.heap.size w w1) := below_from HB.out b1 HB.out.size
      clear b1 r0 r1 r2 hz
      rw [HX.out] at q0
      go_wp2_with (first | refine wpList_load_row rfl 48 _ rfl (w.heap.size) rfl 48 (bigR G) (0, 0) _ q0 Try.underlying48 rfl (size48 _) ?_ | refine wpList_store_row rfl 48 _ _ rfl (w.heap.size + 1 + 1) (bigR G) rfl rfl 48 (bigR 0) q2 (size48 _) (by rw [bigR_size, bigR_size]) (one48 _) ?_)
      refine bodyPost_ret (results_cell_row Try.results42 _ _ (w.heap.size + 1 + 1) 48 (bigR G) (0, 0) _ rfl q2.setRow Try.underlying48 rfl (size48 _)) rfl ?_
      exact ⟨rfl, below_setRow y1.out (by omega)⟩
    · have hp : 0 < y.toNat := by omega
      have HZ' : Hid (∀ (w : World), Calls Try.prog 48 #[.agg (bigR y)] w fun e w' => e = .returned (.bool false) ∧ Below w.heap.size w w') := fun w => by have := HZ.out y w; rwa [decide_eq_false h0] at this
      have HD' : Hid (∀ (w : World), Calls Try.prog 43 #[.agg (bigR x), .agg (bigR y)] w fun e w' => e = .returned (.tuple #[.agg (bigR (BitVec.ofNat 256 (x.toNat / y.toNat))), .agg (bigR (BitVec.ofNat 256 (x.toNat % y.toNat)))]) ∧ Below w.heap.size w w') := fun w => HD.out x y w hp HY.out
      have hml : x.toNat % y.toNat < y.toNat := Nat.mod_lt _ hp
      have hrn : (BitVec.ofNat 256 (x.toNat % y.toNat)).toNat = x.toNat % y.toNat := by rw [BitVec.toNat_ofNat, Nat.mod_eq_of_lt (Nat.lt_trans hml y.isLt)]
      have HR : Hid ((BitVec.ofNat 256 (x.toNat % y.toNat)).toNat < y.toNat ∧ y.toNat.gcd (BitVec.ofNat 256 (x.toNat % y.toNat)).toNat = a.toNat.gcd b.toNat) := by
        rw [hrn, ← HGG.out]
        refine ⟨hml, ?_⟩
        rw [Nat.gcd_comm x.toNat, Nat.gcd_rec y.toNat x.toNat]
        exact Nat.gcd_comm _ _
      generalize BitVec.ofNat 256 (x.toNat % y.toNat) = rr at *
      generalize BitVec.ofNat 256 (x.toNat / y.toNat) = qq at *
      clear hp hml hrn h0 HZ HD HGG
      go_upto_region 1 with fail
      go_upto_region 2 with (first | refine wpList_load_row rfl 48 _ rfl (w.heap.size + 1) rfl 48 (bigR y) (0, 0) _ r1 Try.underlying48 rfl (size48 _) ?_ | (go_at_call 48; refine (HZ'.out _).mono ?_))
      rintro e w1 ⟨rfl, b1⟩
      have q0 := Row.later r0 b1 (Row.lt r0)
      have q1 := Row.later r1 b1 (Row.lt r1)
      have q2 := Row.later r2 b1 (Row.lt r2)
      have y1 : Hid (Below w.heap.size w w1) := below_from HB.out b1 HB.out.size
      clear b1 r0 r1 r2 HB HZ'
      go_upto_region 2 with fail
      go_upto_region 3 with (first | refine wpList_load_row rfl 48 _ rfl (w.heap.size) rfl 48 (bigR x) (0, 0) _ q0 Try.underlying48 rfl (size48 _) ?_ | refine wpList_load_row rfl 48 _ rfl (w.heap.size + 1) rfl 48 (bigR y) (0, 0) _ q1 Try.underlying48 rfl (size48 _) ?_ | (go_at_call 43; refine (HD'.out _).mono ?_))
      rintro e w2 ⟨rfl, b2⟩
      have p0 := Row.later q0 b2 (Row.lt q0)
      have p1 := Row.later q1 b2 (Row.lt q1)
      have p2 := Row.later q2 b2 (Row.lt q2)
      have y2 : Hid (Below w.heap.size w w2) := below_from y1.out b2 y1.out.size
      clear b2 q0 q1 q2 y1 HD'
      have hs2 : Hid (w.heap.size + 1 + 1 < w2.heap.size) := p2.lt
      have n0 := (p0.alloc (.cells (bigR 0) 48)).alloc (.cells (bigR 0) 48)
      have n1 := (p1.alloc (.cells (bigR 0) 48)).alloc (.cells (bigR 0) 48)
      have n2 := (p2.alloc (.cells (bigR 0) 48)).alloc (.cells (bigR 0) 48)
      have n3 : Row ((w2.alloc (.cells (bigR 0) 48)).alloc (.cells (bigR 0) 48)) w2.heap.size (bigR 0) := (row_new w2 _ _ rfl).alloc _
      have n4 : Row ((w2.alloc (.cells (bigR 0) 48)).alloc (.cells (bigR 0) 48)) (w2.heap.size + 1) (bigR 0) := row_new _ _ _ (by simp)
      have n4' := row_other (c' := bigR qq) (g' := w2.heap.size) n4 (by omega)
      dsimp only
      iterate 16 go_step
      refine wpList_store_row rfl 48 _ _ rfl w2.heap.size (bigR qq) rfl rfl 48 (bigR 0) n3 (size48 _) (by rw [bigR_size, bigR_size]) (one48 _) ?_
      refine wpList_store_row rfl 48 _ _ rfl (w2.heap.size + 1) (bigR rr) rfl rfl 48 (bigR 0) n4' (size48 _) (by rw [bigR_size, bigR_size]) (one48 _) ?_
      have m0 := row_other (c' := bigR rr) (g' := w2.heap.size + 1) (row_other (c' := bigR qq) (g' := w2.heap.size) n0 (by have := hs2.out; omega)) (by have := hs2.out; omega)
      have m1 := row_other (c' := bigR rr) (g' := w2.heap.size + 1) (row_other (c' := bigR qq) (g' := w2.heap.size) n1 (by have := hs2.out; omega)) (by have := hs2.out; omega)
      have m2 := row_other (c' := bigR rr) (g' := w2.heap.size + 1) (row_other (c' := bigR qq) (g' := w2.heap.size) n2 (by have := hs2.out; omega)) (by have := hs2.out; omega)
      have m4 := Row.setRow (c' := bigR rr) n4'
      have y3 : Hid (Below w.heap.size w ((((w2.alloc (.cells (bigR 0) 48)).alloc (.cells (bigR 0) 48)).setRow w2.heap.size (bigR qq)).setRow (w2.heap.size + 1) (bigR rr))) := by
        have h := hs2.out
        refine below_setRow (below_setRow ((y2.out.alloc y2.out.size _).alloc ?_ _) y2.out.size) ?_
        · simp; omega
        · omega
      clear p0 p1 p2 n0 n1 n2 n3 n4 n4' y2
      generalize (((w2.alloc (.cells (bigR 0) 48)).alloc (.cells (bigR 0) 48)).setRow w2.heap.size (bigR qq)).setRow (w2.heap.size + 1) (bigR rr) = w3 at *
      clear hz
      go_upto_region 3 with fail
      go_upto_region 4 with (first | refine wpList_load_row rfl 48 _ rfl (w.heap.size + 1) rfl 48 (bigR y) (0, 0) _ m1 Try.underlying48 rfl (size48 _) ?_ | refine wpList_store_row rfl 48 _ _ rfl w.heap.size (bigR y) rfl rfl 48 (bigR x) m0 (size48 _) (by rw [bigR_size, bigR_size]) (one48 _) ?_)
      have k0 := Row.setRow (c' := bigR y) m0
      have k1 := row_other (c' := bigR y) (g' := w.heap.size) m1 (by omega)
      have k2 := row_other (c' := bigR y) (g' := w.heap.size) m2 (by omega)
      have k4 := row_other (c' := bigR y) (g' := w.heap.size) m4 (by have := hs2.out; omega)
      have y4 : Hid (Below w.heap.size w (w3.setRow w.heap.size (bigR y))) := below_setRow y3.out (Nat.le_refl _)
      clear m0 m1 m2 m4 y3
      generalize w3.setRow w.heap.size (bigR y) = w4 at *
      go_wp2_with (first | refine wpList_load_row rfl 48 _ rfl (w2.heap.size + 1) rfl 48 (bigR rr) (0, 0) _ k4 Try.underlying48 rfl (size48 _) ?_ | refine wpList_store_row rfl 48 _ _ rfl (w.heap.size + 1) (bigR rr) rfl rfl 48 (bigR y) k1 (size48 _) (by rw [bigR_size, bigR_size]) (one48 _) ?_)
      have j1 : Row (w4.setRow (w.heap.size + 1) (bigR rr)) (w.heap.size + 1) (bigR rr) := Row.setRow k1
      refine ⟨⟨.pointer (some ⟨w2.heap.size, 0, none⟩), .pointer (some ⟨w2.heap.size + 1, 0, none⟩), .agg (bigR y), .bool false, .bool true, .tuple #[.agg (bigR qq), .agg (bigR rr)], .agg (bigR x), .agg (bigR y), .tuple #[.agg (bigR qq), .agg (bigR rr)], .agg (bigR qq), .agg (bigR rr), .agg (bigR y), .agg (bigR rr), ⟨y, rr, HR.out.2, Nat.le_trans (Nat.le_of_lt HR.out.1) HY.out, row_other k0 (by omega), j1, row_other k2 (by omega), below_setRow y4.out (by omega)⟩, ?_⟩, ?_⟩
      · generalize bigR y = Y
        generalize bigR rr = R
        generalize bigR qq = Q
        generalize bigR x = X
        rfl
      · rw [HMU.out _ _ j1, HM1.out]
        exact HR.out.1

end Go.Proofs.Ytfcegoibelokpaa
