/-
  The contract of the program's Add.
-/
import Derived.Test.YtfcegoibelokpaaWalkF
import Derived.Test.YtfcegoibelokpaaWalkC
import Derived.Shelf.Spec.BitsCarry
namespace Go.Proofs.Ytfcegoibelokpaa
open Go.RowKit

theorem meet_any (n1 d1 n2 d2 : Nat) (w : World) (hn1 : n1 < 18446744073709551616) (hd1 : d1 < 18446744073709551616) (hn2 : n2 < 18446744073709551616) (hd2 : d2 < 18446744073709551616) (h0 : 0 < d1) :
    Calls Try.prog 27 #[.agg #[.int .u64 n1, .int .u64 d1], .agg #[.int .u64 n2, .int .u64 d2]] w fun e w' => e = .returned (meetV (n1 * (d2 / d1.gcd d2)) (n2 * (d1 / d1.gcd d2)) (d1 / d1.gcd d2) d2 (d1.gcd d2)) ∧ Below w.heap.size w w' := by
  have hg : 0 < d1.gcd d2 := Nat.gcd_pos_of_pos_left _ h0
  have l1 : d1 / d1.gcd d2 < 18446744073709551616 := Nat.lt_of_le_of_lt (Nat.div_le_self _ _) hd1
  have l2 : d2 / d1.gcd d2 < 18446744073709551616 := Nat.lt_of_le_of_lt (Nat.div_le_self _ _) hd2
  exact meet_at n1 d1 n2 d2 (d1.gcd d2) _ _ _ _ _ _ w (fun w => gcd_any d1 d2 w hd1 hd2) (by omega) (div_u64 d1 _ hd1) (div_u64 d2 _ hd2) (fun w => times_any n1 _ w hn1 l2) (fun w => times_any n2 _ w hn2 l1)

theorem keep4a {W : World} {o : Obj} {a a2 a3 a4 : Addr} {v v2 v3 v4 : Value} (h : W.cell? a = some v ∧ W.cell? a2 = some v2 ∧ W.cell? a3 = some v3 ∧ W.cell? a4 = some v4) : (W.alloc o).cell? a = some v ∧ (W.alloc o).cell? a2 = some v2 ∧ (W.alloc o).cell? a3 = some v3 ∧ (W.alloc o).cell? a4 = some v4 := keep4c ((Below.refl _ W).alloc (Nat.le_refl _) _) h

theorem other7 {W : World} {g h : Nat} {v0 v1 v2 v3 v4 v5 v6 : Value} {o : Obj} (hh : W.heap[h]? = some o) (hne : h ≠ g) :
    (((((((W.setCell ⟨g, 0, none⟩ v0).setCell ⟨g, 1, none⟩ v1).setCell ⟨g, 2, none⟩ v2).setCell ⟨g, 3, none⟩ v3).setCell ⟨g, 4, none⟩ v4).setCell ⟨g, 5, none⟩ v5).setCell ⟨g, 6, none⟩ v6).heap[h]? = some o :=
  at_other (at_other (at_other (at_other (at_other (at_other (at_other hh hne) hne) hne) hne) hne) hne) hne

theorem add64_run (x y c : Nat) (hc : c ≤ 1) (w : World) :
    (callFunc 28 #[.int .u64 x, .int .u64 y, .int .u64 c]).run Try.prog w =
      .ok (.value (.tuple #[.int .u64 (((x + y + c) % 18446744073709551616 : Nat) : Int), .int .u64 (((x + y + c) / 18446744073709551616 : Nat) : Int)])) w := by
  rw [run_callFunc_extern Try.func28 (by kernel_rfl) (by kernel_rfl) (by kernel_rfl) (e := add64Entry) (by kernel_rfl), run_add64 x y c (by omega) (by omega) (by omega) (by omega)]
  simp only [Result.andThen]
  congr 5 <;> omega

theorem sub64_run (x y b : Nat) (hb : b ≤ 1) (w : World) :
    (callFunc 32 #[.int .u64 x, .int .u64 y, .int .u64 b]).run Try.prog w =
      .ok (.value (.tuple #[.int .u64 (((x + 18446744073709551616 - y - b) % 18446744073709551616 : Nat) : Int), .int .u64 ((if x < y + b then 1 else 0 : Nat) : Int)])) w := by
  rw [run_callFunc_extern Try.func32 (by kernel_rfl) (by kernel_rfl) (by kernel_rfl) (e := sub64Entry) (by kernel_rfl), run_sub64 x y b hb]
  rfl

set_option maxHeartbeats 4000000 in
theorem add_at (a b c d n1 d1 n2 d2 lh ll rh rl f r g lo c1 hi c2 x1 x2 x3 : Nat) (w : World)
    (HF : Hid (∀ w, Calls Try.prog 22 #[.agg #[.int .u64 a, .int .u64 b], .agg #[.int .u64 c, .int .u64 d]] w fun e w' => e = .returned (.bool true) ∧ Below w.heap.size w w'))
    (L1 : Hid (∀ w, Calls Try.prog 21 #[.agg #[.int .u64 a, .int .u64 b]] w fun e w' => e = .returned (.agg #[.int .u64 n1, .int .u64 d1]) ∧ Below w.heap.size w w'))
    (L2 : Hid (∀ w, Calls Try.prog 21 #[.agg #[.int .u64 c, .int .u64 d]] w fun e w' => e = .returned (.agg #[.int .u64 n2, .int .u64 d2]) ∧ Below w.heap.size w w'))
    (M : Hid (∀ w, Calls Try.prog 27 #[.agg #[.int .u64 n1, .int .u64 d1], .agg #[.int .u64 n2, .int .u64 d2]] w fun e w' => e = .returned (.agg #[.int .u64 lh, .int .u64 ll, .int .u64 rh, .int .u64 rl, .int .u64 f, .int .u64 r, .int .u64 g]) ∧ Below w.heap.size w w'))
    (A1 : ∀ w, (callFunc 28 #[.int .u64 ll, .int .u64 rl, .int .u64 0]).run Try.prog w = .ok (.value (.tuple #[.int .u64 lo, .int .u64 c1])) w)
    (A2 : ∀ w, (callFunc 28 #[.int .u64 lh, .int .u64 rh, .int .u64 c1]).run Try.prog w = .ok (.value (.tuple #[.int .u64 hi, .int .u64 c2])) w)
    (O : Hid (c2 = 0 → ∀ w, Calls Try.prog 29 #[.agg #[.int .u64 lh, .int .u64 ll, .int .u64 rh, .int .u64 rl, .int .u64 f, .int .u64 r, .int .u64 g], .agg #[.int .u64 hi, .int .u64 lo]] w fun e w' => e = .returned (.tuple #[.agg #[.int .u64 x1, .int .u64 x2], .int .i64 x3]) ∧ Below w.heap.size w w'))
    (hx : c2 ≠ 0 → x1 = 0 ∧ x2 = 0 ∧ x3 = 7) :
    Calls Try.prog 15 #[.agg #[.int .u64 a, .int .u64 b], .agg #[.int .u64 c, .int .u64 d]] w fun e w' => e = ans (x1, x2, x3) ∧ Below w.heap.size w w' := by
  have HX : Hid (c2 ≠ 0 → x1 = 0 ∧ x2 = 0 ∧ x3 = 7) := hx
  clear hx
  go_enter Try.func15, Try.ntmps15
  go_upto_region 3 with (go_at_call 22; refine (HF.out _).mono ?_; rintro e w1 ⟨rfl, b1⟩; have y1 : Hid (Below w.heap.size w w1) := below_from (by go_grown) b1 (by simp; omega); have z0 := keep2 b1 (at_alloc first0); have z1 := keep2 b1 (at_alloc first1); have z2 := keep2 b1 first2)
  obtain ⟨z00, z01, z02, -, -, -, -⟩ := z0
  obtain ⟨z10, z11, z12, -, -, -, -⟩ := z1
  obtain ⟨r1, -, -, -, -, -, -⟩ := z2
  have ys1 : w.heap.size + 3 ≤ w1.heap.size := by
    have hsz := b1.size
    simp at hsz
    omega
  clear b1 HF z00 z10
  go_cut [6] from 15 to 19 (fun s6 wx => ∃ gb : Nat, s6 = .pointer (some ⟨gb, 0, none⟩) ∧ wx.heap[gb]? = some (.cells #[.int .u64 lh, .int .u64 ll, .int .u64 rh, .int .u64 rl, .int .u64 f, .int .u64 r, .int .u64 g] 54) ∧ wx.heap[w.heap.size + 1 + 1]? = some (.cells #[.int .u64 0, .int .u64 0] 24) ∧ Hid (Below w.heap.size w wx))
  case first =>
    go_region_held3 (fun w' : World => w'.cell? ⟨w.heap.size, 0, none⟩ = some (.int .u64 a) ∧ w'.cell? ⟨w.heap.size, 1, none⟩ = some (.int .u64 b) ∧ w'.cell? ⟨w.heap.size + 1, 0, none⟩ = some (.int .u64 c) ∧ w'.cell? ⟨w.heap.size + 1, 1, none⟩ = some (.int .u64 d)) (repeat' (first | (with_reducible assumption) | (with_reducible refine keep4c (by assumption) ?_) | (with_reducible refine keep4a ?_) | (with_reducible refine keep4t ?_ ?_ ?_ ?_ ?_) | (simp; omega) | go_keep))
      (first | (go_at_call_of 21 (Value.int .u64 a); refine (L1.out _).mono ?_; rintro e w2 ⟨rfl, b2⟩; have ys2 : w.heap.size + 3 ≤ w2.heap.size := (by have hsz := b2.size; first | omega | (simp at hsz; omega)); have y2 : Hid (Below w.heap.size w w2) := (by first | exact below_from y1.out b2 y1.out.size | exact below_from (y1.out.drew) b2 y1.out.size | exact below_from (y1.out.alloc y1.out.size _) b2 (by have := y1.out.size; simp; omega) | exact below_from ((y1.out.alloc y1.out.size _).drew) b2 (by have := y1.out.size; simp; omega)); (first | (with_reducible have rr := keep2 b2 (g := w.heap.size + 1 + 1) (x := Value.int .u64 0) (y := Value.int .u64 0) (ty := 24) (by assumption)) | (with_reducible have rr := keep2 b2 (g := w.heap.size + 1 + 1) (x := Value.int .u64 0) (y := Value.int .u64 0) (ty := 24) (at_drew (by assumption))) | (with_reducible have rr := keep2 b2 (g := w.heap.size + 1 + 1) (x := Value.int .u64 0) (y := Value.int .u64 0) (ty := 24) (at_alloc (by assumption))) | (with_reducible have rr := keep2 b2 (g := w.heap.size + 1 + 1) (x := Value.int .u64 0) (y := Value.int .u64 0) (ty := 24) (at_drew (at_alloc (by assumption))))); obtain ⟨r2, -, -, -, -, -, -⟩ := rr; (try ((first | (with_reducible have za := keep7 b2 (g := w1.heap.size) (x0 := Value.int .u64 0) (x1 := Value.int .u64 0) (x2 := Value.int .u64 0) (x3 := Value.int .u64 0) (x4 := Value.int .u64 0) (x5 := Value.int .u64 0) (x6 := Value.int .u64 0) (ty := 54) (new0)) | (with_reducible have za := keep7 b2 (g := w1.heap.size) (x0 := Value.int .u64 0) (x1 := Value.int .u64 0) (x2 := Value.int .u64 0) (x3 := Value.int .u64 0) (x4 := Value.int .u64 0) (x5 := Value.int .u64 0) (x6 := Value.int .u64 0) (ty := 54) (at_drew new0)) | (with_reducible have za := keep7 b2 (g := w1.heap.size) (x0 := Value.int .u64 0) (x1 := Value.int .u64 0) (x2 := Value.int .u64 0) (x3 := Value.int .u64 0) (x4 := Value.int .u64 0) (x5 := Value.int .u64 0) (x6 := Value.int .u64 0) (ty := 54) ((by assumption)))); obtain ⟨a21, k210, k211, k212, k213, k214, k215, k216, ⟨f210, f211, f212, f213, f214, f215, f216⟩, l21, ne21⟩ := za))) | (go_at_call_of 21 (Value.int .u64 c); refine (L2.out _).mono ?_; rintro e w3 ⟨rfl, b3⟩; have ys3 : w.heap.size + 3 ≤ w3.heap.size := (by have hsz := b3.size; first | omega | (simp at hsz; omega)); have y3 : Hid (Below w.heap.size w w3) := (by first | exact below_from y2.out b3 y2.out.size | exact below_from (y2.out.drew) b3 y2.out.size | exact below_from (y2.out.alloc y2.out.size _) b3 (by have := y2.out.size; simp; omega) | exact below_from ((y2.out.alloc y2.out.size _).drew) b3 (by have := y2.out.size; simp; omega)); (first | (with_reducible have rr := keep2 b3 (g := w.heap.size + 1 + 1) (x := Value.int .u64 0) (y := Value.int .u64 0) (ty := 24) (by assumption)) | (with_reducible have rr := keep2 b3 (g := w.heap.size + 1 + 1) (x := Value.int .u64 0) (y := Value.int .u64 0) (ty := 24) (at_drew (by assumption))) | (with_reducible have rr := keep2 b3 (g := w.heap.size + 1 + 1) (x := Value.int .u64 0) (y := Value.int .u64 0) (ty := 24) (at_alloc (by assumption))) | (with_reducible have rr := keep2 b3 (g := w.heap.size + 1 + 1) (x := Value.int .u64 0) (y := Value.int .u64 0) (ty := 24) (at_drew (at_alloc (by assumption))))); obtain ⟨r3, -, -, -, -, -, -⟩ := rr; (try ((first | (with_reducible have za := keep7 b3 (g := w1.heap.size) (x0 := Value.int .u64 0) (x1 := Value.int .u64 0) (x2 := Value.int .u64 0) (x3 := Value.int .u64 0) (x4 := Value.int .u64 0) (x5 := Value.int .u64 0) (x6 := Value.int .u64 0) (ty := 54) ((by assumption)))); obtain ⟨a31, k310, k311, k312, k313, k314, k315, k316, ⟨f310, f311, f312, f313, f314, f315, f316⟩, l31, ne31⟩ := za)); (try ((first | (with_reducible have za := keep7 b3 (g := w2.heap.size) (x0 := Value.int .u64 0) (x1 := Value.int .u64 0) (x2 := Value.int .u64 0) (x3 := Value.int .u64 0) (x4 := Value.int .u64 0) (x5 := Value.int .u64 0) (x6 := Value.int .u64 0) (ty := 54) (new0)) | (with_reducible have za := keep7 b3 (g := w2.heap.size) (x0 := Value.int .u64 0) (x1 := Value.int .u64 0) (x2 := Value.int .u64 0) (x3 := Value.int .u64 0) (x4 := Value.int .u64 0) (x5 := Value.int .u64 0) (x6 := Value.int .u64 0) (ty := 54) (at_drew new0)) | (with_reducible have za := keep7 b3 (g := w2.heap.size) (x0 := Value.int .u64 0) (x1 := Value.int .u64 0) (x2 := Value.int .u64 0) (x3 := Value.int .u64 0) (x4 := Value.int .u64 0) (x5 := Value.int .u64 0) (x6 := Value.int .u64 0) (ty := 54) ((by assumption)))); obtain ⟨a32, k320, k321, k322, k323, k324, k325, k326, ⟨f320, f321, f322, f323, f324, f325, f326⟩, l32, ne32⟩ := za))) | (go_at_call 27; refine (M.out _).mono ?_; rintro e w4 ⟨rfl, b4⟩; have ys4 : w.heap.size + 3 ≤ w4.heap.size := (by have hsz := b4.size; first | omega | (simp at hsz; omega)); have y4 : Hid (Below w.heap.size w w4) := (by first | exact below_from y3.out b4 y3.out.size | exact below_from (y3.out.drew) b4 y3.out.size | exact below_from (y3.out.alloc y3.out.size _) b4 (by have := y3.out.size; simp; omega) | exact below_from ((y3.out.alloc y3.out.size _).drew) b4 (by have := y3.out.size; simp; omega)); (first | (with_reducible have rr := keep2 b4 (g := w.heap.size + 1 + 1) (x := Value.int .u64 0) (y := Value.int .u64 0) (ty := 24) (by assumption)) | (with_reducible have rr := keep2 b4 (g := w.heap.size + 1 + 1) (x := Value.int .u64 0) (y := Value.int .u64 0) (ty := 24) (at_drew (by assumption))) | (with_reducible have rr := keep2 b4 (g := w.heap.size + 1 + 1) (x := Value.int .u64 0) (y := Value.int .u64 0) (ty := 24) (at_alloc (by assumption))) | (with_reducible have rr := keep2 b4 (g := w.heap.size + 1 + 1) (x := Value.int .u64 0) (y := Value.int .u64 0) (ty := 24) (at_drew (at_alloc (by assumption))))); obtain ⟨r4, -, -, -, -, -, -⟩ := rr; (try ((first | (with_reducible have za := keep7 b4 (g := w1.heap.size) (x0 := Value.int .u64 0) (x1 := Value.int .u64 0) (x2 := Value.int .u64 0) (x3 := Value.int .u64 0) (x4 := Value.int .u64 0) (x5 := Value.int .u64 0) (x6 := Value.int .u64 0) (ty := 54) ((by assumption)))); obtain ⟨a41, k410, k411, k412, k413, k414, k415, k416, ⟨f410, f411, f412, f413, f414, f415, f416⟩, l41, ne41⟩ := za)); (try ((first | (with_reducible have za := keep7 b4 (g := w2.heap.size) (x0 := Value.int .u64 0) (x1 := Value.int .u64 0) (x2 := Value.int .u64 0) (x3 := Value.int .u64 0) (x4 := Value.int .u64 0) (x5 := Value.int .u64 0) (x6 := Value.int .u64 0) (ty := 54) ((by assumption)))); obtain ⟨a42, k420, k421, k422, k423, k424, k425, k426, ⟨f420, f421, f422, f423, f424, f425, f426⟩, l42, ne42⟩ := za)); (try ((first | (with_reducible have za := keep7 b4 (g := w3.heap.size) (x0 := Value.int .u64 0) (x1 := Value.int .u64 0) (x2 := Value.int .u64 0) (x3 := Value.int .u64 0) (x4 := Value.int .u64 0) (x5 := Value.int .u64 0) (x6 := Value.int .u64 0) (ty := 54) (new0)) | (with_reducible have za := keep7 b4 (g := w3.heap.size) (x0 := Value.int .u64 0) (x1 := Value.int .u64 0) (x2 := Value.int .u64 0) (x3 := Value.int .u64 0) (x4 := Value.int .u64 0) (x5 := Value.int .u64 0) (x6 := Value.int .u64 0) (ty := 54) (at_drew new0)) | (with_reducible have za := keep7 b4 (g := w3.heap.size) (x0 := Value.int .u64 0) (x1 := Value.int .u64 0) (x2 := Value.int .u64 0) (x3 := Value.int .u64 0) (x4 := Value.int .u64 0) (x5 := Value.int .u64 0) (x6 := Value.int .u64 0) (ty := 54) ((by assumption)))); obtain ⟨a43, k430, k431, k432, k433, k434, k435, k436, ⟨f430, f431, f432, f433, f434, f435, f436⟩, l43, ne43⟩ := za))))
    all_goals (go_wp2_with fail; go_meet)
    · exact ⟨_, rfl, new0, at_alloc r4, (y4.out.alloc y4.out.size _ : Below _ _ _)⟩
    · refine ⟨_, rfl, at_set7 a43, other7 r4 ?_, ?_⟩
      · omega
      · exact y4.out.trans (below7.mono (by omega))
    · refine ⟨_, rfl, at_set7 a42, other7 r4 ?_, ?_⟩
      · omega
      · exact y4.out.trans (below7.mono (by omega))
    · refine ⟨_, rfl, at_set7 a41, other7 r4 ?_, ?_⟩
      · omega
      · exact y4.out.trans (below7.mono (by omega))
  case rest =>
    obtain ⟨gb, rfl, hgb, hres, hbl⟩ := hcut
    have k0 := Lib.cell_of_heap hgb 0
    have k1 := Lib.cell_of_heap hgb 1
    have k2 := Lib.cell_of_heap hgb 2
    have k3 := Lib.cell_of_heap hgb 3
    have k4 := Lib.cell_of_heap hgb 4
    have k5 := Lib.cell_of_heap hgb 5
    have k6 := Lib.cell_of_heap hgb 6
    simp only [List.getElem?_toArray, List.getElem?_cons_zero, List.getElem?_cons_succ] at k0 k1 k2 k3 k4 k5 k6
    have m0 := Lib.cell_of_heap hres 0
    have m1 := Lib.cell_of_heap hres 1
    have m2 := Lib.frozen_of_heap hres 0
    have m3 := Lib.frozen_of_heap hres 1
    simp only [List.getElem?_toArray, List.getElem?_cons_zero, List.getElem?_cons_succ] at m0 m1
    clear L1 L2 M y1 r1 z01 z02 z11 z12 ys1
    by_cases hc : c2 = 0
    · subst hc
      have HO : Hid (∀ w, Calls Try.prog 29 #[.agg #[.int .u64 lh, .int .u64 ll, .int .u64 rh, .int .u64 rl, .int .u64 f, .int .u64 r, .int .u64 g], .agg #[.int .u64 hi, .int .u64 lo]] w fun e w' => e = .returned (.tuple #[.agg #[.int .u64 x1, .int .u64 x2], .int .i64 x3]) ∧ Below w.heap.size w w') := O.out rfl
      clear O HX
      go_wp2_with (go_at_call 29; refine (HO.out _).mono ?_; rintro e w5 ⟨rfl, b5⟩; have zr := keep2 b5 hres)
      have rr := at_set2 (v := .int .u64 x1) (v' := .int .u64 x2) zr.1
      have c0 := Lib.cell_of_heap rr 0
      have c1' := Lib.cell_of_heap rr 1
      simp only [List.getElem?_toArray, List.getElem?_cons_zero, List.getElem?_cons_succ] at c0 c1'
      refine bodyPost_ret (by simp [results, Try.results15, go_sem, c0, c1']; rfl) rfl ?_
      exact ⟨rfl, ((below_from hbl.out b5 hbl.out.size).setCell le2 _).setCell le2 _⟩
    · have hx := HX.out hc
      obtain ⟨rfl, rfl, rfl⟩ := hx
      have hc' : ((c2 : Int) != 0) = true := by simp; omega
      clear O HX
      go_wp2_with fail
      have rr := at_set2 (v := .int .u64 0) (v' := .int .u64 0) hres
      have c0 := Lib.cell_of_heap rr 0
      have c1' := Lib.cell_of_heap rr 1
      simp only [List.getElem?_toArray, List.getElem?_cons_zero, List.getElem?_cons_succ] at c0 c1'
      refine bodyPost_ret (by simp [results, Try.results15, go_sem, c0, c1']; rfl) rfl ?_
      exact ⟨rfl, (hbl.out.setCell le2 _).setCell le2 _⟩

set_option maxHeartbeats 1000000 in
theorem add_bad (a b c d : Nat) (w : World) (h : b = 0 ∨ d = 0) :
    Calls Try.prog 15 #[.agg #[.int .u64 a, .int .u64 b], .agg #[.int .u64 c, .int .u64 d]] w fun e w' => e = ans (0, 0, 4) ∧ Below w.heap.size w w' := by
  have HF : Hid (∀ w, Calls Try.prog 22 #[.agg #[.int .u64 a, .int .u64 b], .agg #[.int .u64 c, .int .u64 d]] w fun e w' => e = .returned (.bool false) ∧ Below w.heap.size w w') := fun w => by
    have := formed_any a b c d w
    rw [show decide (b ≠ 0 ∧ d ≠ 0) = false by simp; omega] at this
    exact this
  clear h
  go_enter Try.func15, Try.ntmps15
  go_wp2_with (go_at_call 22; refine (HF.out _).mono ?_; rintro e w1 ⟨rfl, b1⟩; have y1 : Hid (Below w.heap.size w w1) := below_from (by go_grown) b1 (by simp; omega); have z2 := keep2 b1 first2)
  have rr := at_set2 (v := .int .u64 0) (v' := .int .u64 0) z2.1
  have c0 := Lib.cell_of_heap rr 0
  have c1' := Lib.cell_of_heap rr 1
  simp only [List.getElem?_toArray, List.getElem?_cons_zero, List.getElem?_cons_succ] at c0 c1'
  refine bodyPost_ret (by simp [results, Try.results15, go_sem, c0, c1']; rfl) rfl ?_
  exact ⟨rfl, (y1.out.setCell le2 _).setCell le2 _⟩

theorem add_any (a b c d : Nat) (w : World) (ha : a < 18446744073709551616) (hb : b < 18446744073709551616) (hc : c < 18446744073709551616) (hd : d < 18446744073709551616) :
    Calls Try.prog 15 #[.agg #[.int .u64 a, .int .u64 b], .agg #[.int .u64 c, .int .u64 d]] w fun e w' => e = ans (Q.addR a b c d) ∧ Below w.heap.size w w' := by
  unfold Q.addR
  by_cases h : b = 0 ∨ d = 0
  · rw [if_pos h]; exact add_bad a b c d w h
  · rw [if_neg h]
    have hb0 : 0 < b := by omega
    have hd0 : 0 < d := by omega
    have hF : ∀ w, Calls Try.prog 22 #[.agg #[.int .u64 a, .int .u64 b], .agg #[.int .u64 c, .int .u64 d]] w fun e w' => e = .returned (.bool true) ∧ Below w.heap.size w w' := fun w => by
      have := formed_any a b c d w
      rw [show decide (b ≠ 0 ∧ d ≠ 0) = true by simp; omega] at this
      exact this
    obtain ⟨k1, p1, q1⟩ := Q.own_low (a := a) hb0
    obtain ⟨k2, p2, q2⟩ := Q.own_low (a := c) hd0
    have l1 := fun w => lowest_any a b w ha hb hb0
    have l2 := fun w => lowest_any c d w hc hd hd0
    have u1 : a / a.gcd b < 18446744073709551616 := Nat.lt_of_le_of_lt (Nat.div_le_self _ _) ha
    have u2 : b / a.gcd b < 18446744073709551616 := Nat.lt_of_le_of_lt (Nat.div_le_self _ _) hb
    have u3 : c / c.gcd d < 18446744073709551616 := Nat.lt_of_le_of_lt (Nat.div_le_self _ _) hc
    have u4 : d / c.gcd d < 18446744073709551616 := Nat.lt_of_le_of_lt (Nat.div_le_self _ _) hd
    generalize a / a.gcd b = n1 at *
    generalize b / a.gcd b = d1 at *
    generalize c / c.gcd d = n2 at *
    generalize d / c.gcd d = d2 at *
    have hm := fun w => meet_any n1 d1 n2 d2 w u1 u2 u3 u4 p1
    have hlow := Q.add_meet hb0 hd0 p1 p2 q1 q2
    have hgcd := Q.meet_gcd (x := n1 * (d2 / d1.gcd d2) + n2 * (d1 / d1.gcd d2)) k1 k2 p1 (Or.inl rfl)
    have hg0 : 0 < d1.gcd d2 := Nat.gcd_pos_of_pos_left _ p1
    have hgl : d1.gcd d2 < 18446744073709551616 := Nat.lt_of_le_of_lt (Nat.le_of_dvd p1 (Nat.gcd_dvd_left _ _)) u2
    have hdv : d1.gcd d2 ∣ d2 := Nat.gcd_dvd_right _ _
    have e1 : d1 / d1.gcd d2 < 18446744073709551616 := Nat.lt_of_le_of_lt (Nat.div_le_self _ _) u2
    have e2 : d2 / d1.gcd d2 < 18446744073709551616 := Nat.lt_of_le_of_lt (Nat.div_le_self _ _) u4
    rw [← hlow]
    have hL : n1 * (d2 / d1.gcd d2) ≤ 18446744073709551615 * 18446744073709551615 := Nat.mul_le_mul (by omega) (by omega)
    have hR : n2 * (d1 / d1.gcd d2) ≤ 18446744073709551615 * 18446744073709551615 := Nat.mul_le_mul (by omega) (by omega)
    generalize n1 * (d2 / d1.gcd d2) = L at *
    generalize n2 * (d1 / d1.gcd d2) = R at *
    generalize d1 / d1.gcd d2 = f at *
    generalize d1.gcd d2 = g at *
    have ov := fun (hs : L + R < 340282366920938463463374607431768211456) w => over_any (L + R) L R f d2 g w hs e1 u4 hgl hg0
    have hov := Q.over_low (x := L + R) (f := f) hg0 hdv hgcd
    have hcar := fun hs => Q.over_carry (x := L + R) (f := f) (r := d2) hg0 hgl hgcd hs
    obtain ⟨x1, x2, x3, hX⟩ : ∃ x1 x2 x3, Q.low (L + R) (f * d2) = (x1, x2, x3) := ⟨_, _, _, rfl⟩
    rw [hX]
    rw [hX] at hov hcar
    rw [hov] at ov
    have a1 := fun w => add64_run (L % 18446744073709551616) (R % 18446744073709551616) 0 (by omega) w
    have a2 := fun w => add64_run (L / 18446744073709551616) (R / 18446744073709551616) ((L % 18446744073709551616 + R % 18446744073709551616 + 0) / 18446744073709551616) (by omega) w
    have v1 : (L % 18446744073709551616 + R % 18446744073709551616 + 0) % 18446744073709551616 = (L + R) % 18446744073709551616 := by omega
    have v2 : (L / 18446744073709551616 + R / 18446744073709551616 + (L % 18446744073709551616 + R % 18446744073709551616 + 0) / 18446744073709551616) = (L + R) / 18446744073709551616 := by omega
    rw [v2] at a2
    refine add_at a b c d n1 d1 n2 d2 _ _ _ _ f d2 g _ _ ((L + R) / 18446744073709551616 % 18446744073709551616) ((L + R) / 18446744073709551616 / 18446744073709551616) x1 x2 x3 w hF l1 l2 hm a1 a2 ?_ ?_
    · intro hc2 w
      have hs : L + R < 340282366920938463463374607431768211456 := by omega
      have := ov hs w
      unfold meetV wideV ans at this
      rw [v1, show (L + R) / 18446744073709551616 % 18446744073709551616 = (L + R) / 18446744073709551616 by omega]
      exact this
    · intro hc2
      have := hcar (by omega)
      simp only [Prod.mk.injEq] at this
      exact this

end Go.Proofs.Ytfcegoibelokpaa
