/-
  The contract of the program's Sub.
-/
import Derived.Test.YtfcegoibelokpaaWalkG
namespace Go.Proofs.Ytfcegoibelokpaa
open Go.RowKit

set_option maxHeartbeats 4000000 in
theorem sub_at (a b c d n1 d1 n2 d2 lh ll rh rl f r g lo c1 hi c2 x1 x2 x3 : Nat) (o : Int) (ho : 0 ≤ o) (w : World)
    (HF : Hid (∀ w, Calls Try.prog 22 #[.agg #[.int .u64 a, .int .u64 b], .agg #[.int .u64 c, .int .u64 d]] w fun e w' => e = .returned (.bool true) ∧ Below w.heap.size w w'))
    (HC : Hid (∀ w, Calls Try.prog 23 #[.agg #[.int .u64 a, .int .u64 b], .agg #[.int .u64 c, .int .u64 d]] w fun e w' => e = .returned (.int .i64 o) ∧ Below w.heap.size w w'))
    (L1 : Hid (∀ w, Calls Try.prog 21 #[.agg #[.int .u64 a, .int .u64 b]] w fun e w' => e = .returned (.agg #[.int .u64 n1, .int .u64 d1]) ∧ Below w.heap.size w w'))
    (L2 : Hid (∀ w, Calls Try.prog 21 #[.agg #[.int .u64 c, .int .u64 d]] w fun e w' => e = .returned (.agg #[.int .u64 n2, .int .u64 d2]) ∧ Below w.heap.size w w'))
    (M : Hid (∀ w, Calls Try.prog 27 #[.agg #[.int .u64 n1, .int .u64 d1], .agg #[.int .u64 n2, .int .u64 d2]] w fun e w' => e = .returned (.agg #[.int .u64 lh, .int .u64 ll, .int .u64 rh, .int .u64 rl, .int .u64 f, .int .u64 r, .int .u64 g]) ∧ Below w.heap.size w w'))
    (A1 : ∀ w, (callFunc 32 #[.int .u64 ll, .int .u64 rl, .int .u64 0]).run Try.prog w = .ok (.value (.tuple #[.int .u64 lo, .int .u64 c1])) w)
    (A2 : ∀ w, (callFunc 32 #[.int .u64 lh, .int .u64 rh, .int .u64 c1]).run Try.prog w = .ok (.value (.tuple #[.int .u64 hi, .int .u64 c2])) w)
    (HO : Hid (∀ w, Calls Try.prog 29 #[.agg #[.int .u64 lh, .int .u64 ll, .int .u64 rh, .int .u64 rl, .int .u64 f, .int .u64 r, .int .u64 g], .agg #[.int .u64 hi, .int .u64 lo]] w fun e w' => e = .returned (.tuple #[.agg #[.int .u64 x1, .int .u64 x2], .int .i64 x3]) ∧ Below w.heap.size w w')) :
    Calls Try.prog 17 #[.agg #[.int .u64 a, .int .u64 b], .agg #[.int .u64 c, .int .u64 d]] w fun e w' => e = ans (x1, x2, x3) ∧ Below w.heap.size w w' := by
  have ho' : ¬ (o < 0) := by omega
  go_enter Try.func17, Try.ntmps17
  go_upto_region 3 with (go_at_call 22; refine (HF.out _).mono ?_; rintro e wa ⟨rfl, ba⟩; have ya : Hid (Below w.heap.size w wa) := below_from (by go_grown) ba (by simp; omega); have za := keep2 ba (at_alloc first0); have zb := keep2 ba (at_alloc first1); have zc := keep2 ba first2)
  obtain ⟨za0, za1, za2, -, -, -, -⟩ := za
  obtain ⟨zb0, zb1, zb2, -, -, -, -⟩ := zb
  obtain ⟨zc0, -, -, -, -, -, -⟩ := zc
  have ysa : w.heap.size + 3 ≤ wa.heap.size := by
    have hsz := ba.size
    simp at hsz
    omega
  clear ba HF
  go_upto_region 5 with (go_at_call 23; refine (HC.out _).mono ?_; rintro e w1 ⟨rfl, b1⟩; have y1 : Hid (Below w.heap.size w w1) := below_from ya.out b1 ya.out.size; have z0 := keep2 b1 za0; have z1 := keep2 b1 zb0; have z2 := keep2 b1 zc0)
  obtain ⟨z00, z01, z02, -, -, -, -⟩ := z0
  obtain ⟨z10, z11, z12, -, -, -, -⟩ := z1
  obtain ⟨r1, -, -, -, -, -, -⟩ := z2
  have ys1 : w.heap.size + 3 ≤ w1.heap.size := by
    have hsz := b1.size
    omega
  clear b1 HC z00 z10 za0 za1 za2 zb0 zb1 zb2 zc0 ya ysa
  go_cut [6] from 21 to 25 (fun s6 wx => ∃ gb : Nat, s6 = .pointer (some ⟨gb, 0, none⟩) ∧ wx.heap[gb]? = some (.cells #[.int .u64 lh, .int .u64 ll, .int .u64 rh, .int .u64 rl, .int .u64 f, .int .u64 r, .int .u64 g] 54) ∧ wx.heap[w.heap.size + 1 + 1]? = some (.cells #[.int .u64 0, .int .u64 0] 24) ∧ Hid (Below w.heap.size w wx))
  case first =>
    go_region_held3 (fun w' : World => w'.cell? ⟨w.heap.size, 0, none⟩ = some (.int .u64 a) ∧ w'.cell? ⟨w.heap.size, 1, none⟩ = some (.int .u64 b) ∧ w'.cell? ⟨w.heap.size + 1, 0, none⟩ = some (.int .u64 c) ∧ w'.cell? ⟨w.heap.size + 1, 1, none⟩ = some (.int .u64 d)) (repeat' (first | (with_reducible assumption) | (with_reducible refine keep4c (by assumption) ?_) | (with_reducible refine keep4a ?_) | (with_reducible refine keep4t ?_ ?_ ?_ ?_ ?_) | (simp; omega) | go_keep))
      (first | (go_at_call_of 21 (Value.int .u64 a); refine (L1.out _).mono ?_; rintro e w2 ⟨rfl, b2⟩; have ys2 : w.heap.size + 3 ≤ w2.heap.size := (by have hsz := b2.size; first | omega | (simp at hsz; omega)); have y2 : Hid (Below w.heap.size w w2) := (by first | exact below_from y1.out b2 y1.out.size | exact below_from (y1.out.drew) b2 y1.out.size | exact below_from (y1.out.alloc y1.out.size _) b2 (by have := y1.out.size; simp; omega) | exact below_from ((y1.out.alloc y1.out.size _).drew) b2 (by have := y1.out.size; simp; omega)); (first | (with_reducible have rr := keep2 b2 (g := w.heap.size + 1 + 1) (x := Value.int .u64 0) (y := Value.int .u64 0) (ty := 24) (by assumption)) | (with_reducible have rr := keep2 b2 (g := w.heap.size + 1 + 1) (x := Value.int .u64 0) (y := Value.int .u64 0) (ty := 24) (at_drew (by assumption))) | (with_reducible have rr := keep2 b2 (g := w.heap.size + 1 + 1) (x := Value.int .u64 0) (y := Value.int .u64 0) (ty := 24) (at_alloc (by assumption))) | (with_reducible have rr := keep2 b2 (g := w.heap.size + 1 + 1) (x := Value.int .u64 0) (y := Value.int .u64 0) (ty := 24) (at_drew (at_alloc (by assumption))))); obtain ⟨r2, -, -, -, -, -, -⟩ := rr; (try ((first | (with_reducible have za := keep7 b2 (g := w1.heap.size) (x0 := Value.int .u64 0) (x1 := Value.int .u64 0) (x2 := Value.int .u64 0) (x3 := Value.int .u64 0) (x4 := Value.int .u64 0) (x5 := Value.int .u64 0) (x6 := Value.int .u64 0) (ty := 54) (new0)) | (with_reducible have za := keep7 b2 (g := w1.heap.size) (x0 := Value.int .u64 0) (x1 := Value.int .u64 0) (x2 := Value.int .u64 0) (x3 := Value.int .u64 0) (x4 := Value.int .u64 0) (x5 := Value.int .u64 0) (x6 := Value.int .u64 0) (ty := 54) (at_drew new0)) | (with_reducible have za := keep7 b2 (g := w1.heap.size) (x0 := Value.int .u64 0) (x1 := Value.int .u64 0) (x2 := Value.int .u64 0) (x3 := Value.int .u64 0) (x4 := Value.int .u64 0) (x5 := Value.int .u64 0) (x6 := Value.int .u64 0) (ty := 54) ((by assumption)))); obtain ⟨a21, k210, k211, k212, k213, k214, k215, k216, ⟨f210, f211, f212, f213, f214, f215, f216⟩, l21, ne21⟩ := za))) | (go_at_call_of 21 (Value.int .u64 c); refine (L2.out _).mono ?_; rintro e w3 ⟨rfl, b3⟩; have ys3 : w.heap.size + 3 ≤ w3.heap.size := (by have hsz := b3.size; first | omega | (simp at hsz; omega)); have y3 : Hid (Below w.heap.size w w3) := (by first | exact below_from y2.out b3 y2.out.size | exact below_from (y2.out.drew) b3 y2.out.size | exact below_from (y2.out.alloc y2.out.size _) b3 (by have := y2.out.size; simp; omega) | exact below_from ((y2.out.alloc y2.out.size _).drew) b3 (by have := y2.out.size; simp; omega)); (first | (with_reducible have rr := keep2 b3 (g := w.heap.size + 1 + 1) (x := Value.int .u64 0) (y := Value.int .u64 0) (ty := 24) (by assumption)) | (with_reducible have rr := keep2 b3 (g := w.heap.size + 1 + 1) (x := Value.int .u64 0) (y := Value.int .u64 0) (ty := 24) (at_drew (by assumption))) | (with_reducible have rr := keep2 b3 (g := w.heap.size + 1 + 1) (x := Value.int .u64 0) (y := Value.int .u64 0) (ty := 24) (at_alloc (by assumption))) | (with_reducible have rr := keep2 b3 (g := w.heap.size + 1 + 1) (x := Value.int .u64 0) (y := Value.int .u64 0) (ty := 24) (at_drew (at_alloc (by assumption))))); obtain ⟨r3, -, -, -, -, -, -⟩ := rr; (try ((first | (with_reducible have za := keep7 b3 (g := w1.heap.size) (x0 := Value.int .u64 0) (x1 := Value.int .u64 0) (x2 := Value.int .u64 0) (x3 := Value.int .u64 0) (x4 := Value.int .u64 0) (x5 := Value.int .u64 0) (x6 := Value.int .u64 0) (ty := 54) ((by assumption)))); obtain ⟨a31, k310, k311, k312, k313, k314, k315, k316, ⟨f310, f311, f312, f313, f314, f315, f316⟩, l31, ne31⟩ := za)); (try ((first | (with_reducible have za := keep7 b3 (g := w2.heap.size) (x0 := Value.int .u64 0) (x1 := Value.int .u64 0) (x2 := Value.int .u64 0) (x3 := Value.int .u64 0) (x4 := Value.int .u64 0) (x5 := Value.int .u64 0) (x6 := Value.int .u64 0) (ty := 54) (new0)) | (with_reducible have za := keep7 b3 (g := w2.heap.size) (x0 := Value.int .u64 0) (x1 := Value.int .u64 0) (x2 := Value.int .u64 0) (x3 := Value.int .u64 0) (x4 := Value.int .u64 0) (x5 := Value.int .u64 0) (x6 := Value.int .u64 0) (ty := 54) (at_drew new0)) | (with_reducible have za := keep7 b3 (g := w2.heap.size) (x0 := Value.int .u64 0) (x1 := Value.int .u64 0) (x2 := Value.int .u64 0) (x3 := Value.int .u64 0) (x4 := Value.int .u64 0) (x5 := Value.int .u64 0) (x6 := Value.int .u64 0) (ty := 54) ((by assumption)))); obtain ⟨a32, k320, k321, k322, k323, k324, k325, k326, ⟨f320, f321, f322, f323, f324, f325, f326⟩, l32, ne32⟩ := za))) | (go_at_call 27; refine (M.out _).mono ?_; rintro e w4 ⟨rfl, b4⟩; have ys4 : w.heap.size + 3 ≤ w4.heap.size := (by have hsz := b4.size; first | omega | (simp at hsz; omega)); have y4 : Hid (Below w.heap.size w w4) := (by first | exact below_from y3.out b4 y3.out.size | exact below_from (y3.out.drew) b4 y3.out.size | exact below_from (y3.out.alloc y3.out.size _) b4 (by have := y3.out.size; simp; omega) | exact below_from ((y3.out.alloc y3.out.size _).drew) b4 (by have := y3.out.size; simp; omega)); (first | (with_reducible have rr := keep2 b4 (g := w.heap.size + 1 + 1) (x := Value.int .u64 0) (y := Value.int .u64 0) (ty := 24) (by assumption)) | (with_reducible have rr := keep2 b4 (g := w.heap.size + 1 + 1) (x := Value.int .u64 0) (y := Value.int .u64 0) (ty := 24) (at_drew (by assumption))) | (with_reducible have rr := keep2 b4 (g := w.heap.size + 1 + 1) (x := Value.int .u64 0) (y := Value.int .u64 0) (ty := 24) (at_alloc (by assumption))) | (with_reducible have rr := keep2 b4 (g := w.heap.size + 1 + 1) (x := Value.int .u64 0) (y := Value.int .u64 0) (ty := 24) (at_drew (at_alloc (by assumption))))); obtain ⟨r4, -, -, -, -, -, -⟩ := rr; (try ((first | (with_reducible have za := keep7 b4 (g := w1.heap.size) (x0 := Value.int .u64 0) (x1 := Value.int .u64 0) (x2 := Value.int .u64 0) (x3 := Value.int .u64 0) (x4 := Value.int .u64 0) (x5 := Value.int .u64 0) (x6 := Value.int .u64 0) (ty := 54) ((by assumption)))); obtain ⟨a41, k410, k411, k412, k413, k414, k415, k416, ⟨f410, f411, f412, f413, f414, f415, f416⟩, l41, ne41⟩ := za)); (try ((first | (with_reducible have za := keep7 b4 (g := w2.heap.size) (x0 := Value.int .u64 0) (x1 := Value.int .u64 0) (x2 := Value.int .u64 0) (x3 := Value.int .u64 0) (x4 := Value.int .u64 0) (x5 := Value.int .u64 0) (x6 := Value.int .u64 0) (ty := 54) ((by assumption)))); obtain ⟨a42, k420, k421, k422, k423, k424, k425, k426, ⟨f420, f421, f422, f423, f424, f425, f426⟩, l42, ne42⟩ := za)); (try ((first | (with_reducible have za := keep7 b4 (g := w3.heap.size) (x0 := Value.int .u64 0) (x1 := Value.int .u64 0) (x2 := Value.int .u64 0) (x3 := Value.int .u64 0) (x4 := Value.int .u64 0) (x5 := Value.int .u64 0) (x6 := Value.int .u64 0) (ty := 54) (new0)) | (with_reducible have za := keep7 b4 (g := w3.heap.size) (x0 := Value.int .u64 0) (x1 := Value.int .u64 0) (x2 := Value.int .u64 0) (x3 := Value.int .u64 0) (x4 := Value.int .u64 0) (x5 := Value.int .u64 0) (x6 := Value.int .u64 0) (ty := 54) (at_drew new0)) | (with_reducible have za := keep7 b4 (g := w3.heap.size) (x0 := Value.int .u64 0) (x1 := Value.int .u64 0) (x2 := Value.int .u64 0) (x3 := Value.int .u64 0) (x4 := Value.int .u64 0) (x5 := Value.int .u64 0) (x6 := Value.int .u64 0) (ty := 54) ((by assumption)))); obtain ⟨a43, k430, k431, k432, k433, k434, k435, k436, ⟨f430, f431, f432, f433, f434, f435, f436⟩, l43, ne43⟩ := za))))
    all_goals (go_wp2_with fail; go_meet)
    · exact ⟨_, rfl, new0, at_alloc r4, (y4.out.alloc y4.out.size _ : Below _ _ _)⟩
    · refine ⟨_, rfl, at_set7 a43, other7 r4 ?_, ?_⟩
      · omega
      · exact y4.out.trans (below7.mono (by omega))
    · refine ⟨_, rfl, at_set7 a42, other7 r4 ?_, ?_⟩
      · omega
      · exact y4.out.trans (below7.mono (by omega))
    · refine ⟨_, rfl, at_set7 a41, other7 r4 ?_, ?_⟩
      · omega
      · exact y4.out.trans (below7.mono (by omega))
  case rest =>
    obtain ⟨gb, rfl, hgb, hres, hbl⟩ := hcut
    have k0 := Lib.cell_of_heap hgb 0
    have k1 := Lib.cell_of_heap hgb 1
    have k2 := Lib.cell_of_heap hgb 2
    have k3 := Lib.cell_of_heap hgb 3
    have k4 := Lib.cell_of_heap hgb 4
    have k5 := Lib.cell_of_heap hgb 5
    have k6 := Lib.cell_of_heap hgb 6
    simp only [List.getElem?_toArray, List.getElem?_cons_zero, List.getElem?_cons_succ] at k0 k1 k2 k3 k4 k5 k6
    have m0 := Lib.cell_of_heap hres 0
    have m1 := Lib.cell_of_heap hres 1
    have m2 := Lib.frozen_of_heap hres 0
    have m3 := Lib.frozen_of_heap hres 1
    simp only [List.getElem?_toArray, List.getElem?_cons_zero, List.getElem?_cons_succ] at m0 m1
    clear L1 L2 M y1 r1 z01 z02 z11 z12 ys1
    go_wp2_with (go_at_call 29; refine (HO.out _).mono ?_; rintro e w5 ⟨rfl, b5⟩; have zr := keep2 b5 hres)
    have rr := at_set2 (v := .int .u64 x1) (v' := .int .u64 x2) zr.1
    have c0 := Lib.cell_of_heap rr 0
    have c1' := Lib.cell_of_heap rr 1
    simp only [List.getElem?_toArray, List.getElem?_cons_zero, List.getElem?_cons_succ] at c0 c1'
    refine bodyPost_ret (by simp [results, Try.results17, go_sem, c0, c1']; rfl) rfl ?_
    exact ⟨rfl, ((below_from hbl.out b5 hbl.out.size).setCell le2 _).setCell le2 _⟩

set_option maxHeartbeats 1000000 in
theorem sub_bad (a b c d : Nat) (w : World) (h : b = 0 ∨ d = 0) :
    Calls Try.prog 17 #[.agg #[.int .u64 a, .int .u64 b], .agg #[.int .u64 c, .int .u64 d]] w fun e w' => e = ans (0, 0, 4) ∧ Below w.heap.size w w' := by
  have HF : Hid (∀ w, Calls Try.prog 22 #[.agg #[.int .u64 a, .int .u64 b], .agg #[.int .u64 c, .int .u64 d]] w fun e w' => e = .returned (.bool false) ∧ Below w.heap.size w w') := fun w => by
    have := formed_any a b c d w
    rw [show decide (b ≠ 0 ∧ d ≠ 0) = false by simp; omega] at this
    exact this
  clear h
  go_enter Try.func17, Try.ntmps17
  go_wp2_with (go_at_call 22; refine (HF.out _).mono ?_; rintro e w1 ⟨rfl, b1⟩; have y1 : Hid (Below w.heap.size w w1) := below_from (by go_grown) b1 (by simp; omega); have z2 := keep2 b1 first2)
  have rr := at_set2 (v := .int .u64 0) (v' := .int .u64 0) z2.1
  have c0 := Lib.cell_of_heap rr 0
  have c1' := Lib.cell_of_heap rr 1
  simp only [List.getElem?_toArray, List.getElem?_cons_zero, List.getElem?_cons_succ] at c0 c1'
  refine bodyPost_ret (by simp [results, Try.results17, go_sem, c0, c1']; rfl) rfl ?_
  exact ⟨rfl, (y1.out.setCell le2 _).setCell le2 _⟩

set_option maxHeartbeats 1000000 in
theorem sub_range (a b c d : Nat) (w : World) (o : Int) (ho : o < 0) (h : b ≠ 0 ∧ d ≠ 0)
    (HC : Hid (∀ w, Calls Try.prog 23 #[.agg #[.int .u64 a, .int .u64 b], .agg #[.int .u64 c, .int .u64 d]] w fun e w' => e = .returned (.int .i64 o) ∧ Below w.heap.size w w')) :
    Calls Try.prog 17 #[.agg #[.int .u64 a, .int .u64 b], .agg #[.int .u64 c, .int .u64 d]] w fun e w' => e = ans (0, 0, 2) ∧ Below w.heap.size w w' := by
  have HF : Hid (∀ w, Calls Try.prog 22 #[.agg #[.int .u64 a, .int .u64 b], .agg #[.int .u64 c, .int .u64 d]] w fun e w' => e = .returned (.bool true) ∧ Below w.heap.size w w') := fun w => by
    have := formed_any a b c d w
    rw [show decide (b ≠ 0 ∧ d ≠ 0) = true by simp; omega] at this
    exact this
  clear h
  go_enter Try.func17, Try.ntmps17
  go_upto_region 3 with (go_at_call 22; refine (HF.out _).mono ?_; rintro e wa ⟨rfl, ba⟩; have ya : Hid (Below w.heap.size w wa) := below_from (by go_grown) ba (by simp; omega); have za := keep2 ba (at_alloc first0); have zb := keep2 ba (at_alloc first1); have zc := keep2 ba first2)
  obtain ⟨za0, za1, za2, -, -, -, -⟩ := za
  obtain ⟨zb0, zb1, zb2, -, -, -, -⟩ := zb
  obtain ⟨zc0, -, -, -, -, -, -⟩ := zc
  clear ba HF
  go_wp2_with (go_at_call 23; refine (HC.out _).mono ?_; rintro e w1 ⟨rfl, b1⟩; have y1 : Hid (Below w.heap.size w w1) := below_from ya.out b1 ya.out.size; have z2 := keep2 b1 zc0)
  have rr := at_set2 (v := .int .u64 0) (v' := .int .u64 0) z2.1
  have c0 := Lib.cell_of_heap rr 0
  have c1' := Lib.cell_of_heap rr 1
  simp only [List.getElem?_toArray, List.getElem?_cons_zero, List.getElem?_cons_succ] at c0 c1'
  refine bodyPost_ret (by simp [results, Try.results17, go_sem, c0, c1']; rfl) rfl ?_
  exact ⟨rfl, (y1.out.setCell le2 _).setCell le2 _⟩

theorem sub_any (a b c d : Nat) (w : World) (ha : a < 18446744073709551616) (hb : b < 18446744073709551616) (hc : c < 18446744073709551616) (hd : d < 18446744073709551616) :
    Calls Try.prog 17 #[.agg #[.int .u64 a, .int .u64 b], .agg #[.int .u64 c, .int .u64 d]] w fun e w' => e = ans (Q.subR a b c d) ∧ Below w.heap.size w w' := by
  unfold Q.subR
  by_cases h : b = 0 ∨ d = 0
  · rw [if_pos h]; exact sub_bad a b c d w h
  · rw [if_neg h]
    have hb0 : 0 < b := by omega
    have hd0 : 0 < d := by omega
    have hF : ∀ w, Calls Try.prog 22 #[.agg #[.int .u64 a, .int .u64 b], .agg #[.int .u64 c, .int .u64 d]] w fun e w' => e = .returned (.bool true) ∧ Below w.heap.size w w' := fun w => by
      have := formed_any a b c d w
      rw [show decide (b ≠ 0 ∧ d ≠ 0) = true by simp; omega] at this
      exact this
    have hC := fun w => cmps_any a b c d w ha hb hc hd
    by_cases hlt : a * d < c * b
    · rw [if_pos hlt]
      exact sub_range a b c d w _ (by rw [show Q.ord (a * d) (c * b) = -1 by unfold Q.ord; rw [if_pos hlt]]; decide) ⟨by omega, by omega⟩ hC
    rw [if_neg hlt]
    have ho : 0 ≤ Q.ord (a * d) (c * b) := Q.ord_ge.2 (by omega)
    obtain ⟨k1, p1, q1⟩ := Q.own_low (a := a) hb0
    obtain ⟨k2, p2, q2⟩ := Q.own_low (a := c) hd0
    have l1 := fun w => lowest_any a b w ha hb hb0
    have l2 := fun w => lowest_any c d w hc hd hd0
    have u1 : a / a.gcd b < 18446744073709551616 := Nat.lt_of_le_of_lt (Nat.div_le_self _ _) ha
    have u2 : b / a.gcd b < 18446744073709551616 := Nat.lt_of_le_of_lt (Nat.div_le_self _ _) hb
    have u3 : c / c.gcd d < 18446744073709551616 := Nat.lt_of_le_of_lt (Nat.div_le_self _ _) hc
    have u4 : d / c.gcd d < 18446744073709551616 := Nat.lt_of_le_of_lt (Nat.div_le_self _ _) hd
    generalize a / a.gcd b = n1 at *
    generalize b / a.gcd b = d1 at *
    generalize c / c.gcd d = n2 at *
    generalize d / c.gcd d = d2 at *
    have hm := fun w => meet_any n1 d1 n2 d2 w u1 u2 u3 u4 p1
    have hlow := Q.sub_meet hb0 hd0 p1 p2 q1 q2
    have hle := Q.sub_le (d2 := d2) hb0 hd0 p1 q1 q2 (by omega : c * b ≤ a * d)
    have hgcd := Q.meet_gcd (x := n1 * (d2 / d1.gcd d2) - n2 * (d1 / d1.gcd d2)) k1 k2 p1 (Or.inr (Nat.sub_add_cancel hle))
    have hg0 : 0 < d1.gcd d2 := Nat.gcd_pos_of_pos_left _ p1
    have hgl : d1.gcd d2 < 18446744073709551616 := Nat.lt_of_le_of_lt (Nat.le_of_dvd p1 (Nat.gcd_dvd_left _ _)) u2
    have hdv : d1.gcd d2 ∣ d2 := Nat.gcd_dvd_right _ _
    have e1 : d1 / d1.gcd d2 < 18446744073709551616 := Nat.lt_of_le_of_lt (Nat.div_le_self _ _) u2
    have e2 : d2 / d1.gcd d2 < 18446744073709551616 := Nat.lt_of_le_of_lt (Nat.div_le_self _ _) u4
    rw [← hlow]
    have hL : n1 * (d2 / d1.gcd d2) ≤ 18446744073709551615 * 18446744073709551615 := Nat.mul_le_mul (by omega) (by omega)
    have hR : n2 * (d1 / d1.gcd d2) ≤ 18446744073709551615 * 18446744073709551615 := Nat.mul_le_mul (by omega) (by omega)
    generalize n1 * (d2 / d1.gcd d2) = L at *
    generalize n2 * (d1 / d1.gcd d2) = R at *
    generalize d1 / d1.gcd d2 = f at *
    generalize d1.gcd d2 = g at *
    have hs : L - R < 340282366920938463463374607431768211456 := by omega
    have ov := fun w => over_any (L - R) L R f d2 g w hs e1 u4 hgl hg0
    have hov := Q.over_low (x := L - R) (f := f) hg0 hdv hgcd
    obtain ⟨x1, x2, x3, hX⟩ : ∃ x1 x2 x3, Q.low (L - R) (f * d2) = (x1, x2, x3) := ⟨_, _, _, rfl⟩
    rw [hX]
    rw [hX] at hov
    rw [hov] at ov
    have a1 := fun w => sub64_run (L % 18446744073709551616) (R % 18446744073709551616) 0 (by omega) w
    have a2 := fun w => sub64_run (L / 18446744073709551616) (R / 18446744073709551616) (if L % 18446744073709551616 < R % 18446744073709551616 + 0 then 1 else 0) (by split <;> omega) w
    have v1 : (L % 18446744073709551616 + 18446744073709551616 - R % 18446744073709551616 - 0) % 18446744073709551616 = (L - R) % 18446744073709551616 := by omega
    have v2 : (L / 18446744073709551616 + 18446744073709551616 - R / 18446744073709551616 - (if L % 18446744073709551616 < R % 18446744073709551616 + 0 then 1 else 0)) % 18446744073709551616 = (L - R) / 18446744073709551616 := by
      split <;> omega
    rw [v1] at a1
    rw [v2] at a2
    refine sub_at a b c d n1 d1 n2 d2 _ _ _ _ f d2 g _ _ _ _ x1 x2 x3 _ ho w hF hC l1 l2 hm a1 a2 ?_
    intro w
    have := ov w
    unfold meetV wideV ans at this
    exact this

end Go.Proofs.Ytfcegoibelokpaa
