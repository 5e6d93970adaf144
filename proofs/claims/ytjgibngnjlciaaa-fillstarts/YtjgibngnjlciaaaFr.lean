/-
  The law FillStarts.
-/
import Derived.Test.YtjgibngnjlciaaaFn
import Derived.Test.YtjgibngnjlciaaaHd
namespace Go.Proofs.Ytjgibngnjlciaaa
open Go.RowKit Go.Maps

set_option maxHeartbeats 4000000 in
set_option maxRecDepth 100000 in
theorem starts_law (now rt : Int) (qH qL qv r : Option Addr) (nH cH nL cL nv cv m d : Nat) (T U : List V) (L : List Vi) (S : List Sl) (w : World) (hA : LwA w now rt qH nH cH T qL nL cL U qv nv L r m d S) :
    Calls Try.prog 3 #[xA now rt qH nH cH qL nL cL, .slice qv nv cv, .slice r m d] w fun e w' => e = .returned (.bool true) ∧ Below w.heap.size w w' := by
  have H7 : Hid (∀ W, Calls Try.prog 7 #[] W fun e w' => e = .returned (.bool true) ∧ Below W.heap.size W w') := awake18
  have H8 : Hid (∀ W, Below w.heap.size w W → Calls Try.prog 8 #[xA now rt qH nH cH qL nL cL, .slice qv nv cv, .slice r m d] W fun e w' => e = .returned (.bool (fewV nH nL L m)) ∧ Hid (Below W.heap.size W w')) := hA.few cv
  have HA : Hid (LwA w now rt qH nH cH T qL nL cL U qv nv L r m d S) := hA
  clear hA
  have B0 : Hid (Below w.heap.size w (w.alloc (.cells #[.int .i64 now, .int .i64 rt, .slice qH nH cH, .slice qL nL cL] 24))) := (Below.refl _ w).alloc (Nat.le_refl _) _
  have HN : Hid ((w.alloc (.cells #[.int .i64 now, .int .i64 rt, .slice qH nH cH, .slice qL nL cL] 24)).heap[w.heap.size]? = some (.cells #[.int .i64 now, .int .i64 rt, .slice qH nH cH, .slice qL nL cL] 24)) := new0
  cases hf : fewV nH nL L m with
  | false =>
    rw [hf] at H8
    clear hf
    go_enter Try.func3, Try.ntmps3
    go_upto_region 1 with fail
    generalize w.alloc (.cells #[.int .i64 now, .int .i64 rt, .slice qH nH cH, .slice qL nL cL] 24) = W at *
    go_upto_region 2 with (first | (go_at_call 7; refine (H7.out _).mono ?_; rintro e w1 ⟨rfl, b1⟩; have B1 : Hid (Below w.heap.size w w1) := below_from B0.out b1 B0.out.size; have z1 := at_below b1 (Nat.le_refl _) HN.out; have c0 := Lib.cell_of_heap z1 0; have c1 := Lib.cell_of_heap z1 1; have c2 := Lib.cell_of_heap z1 2; have c3 := Lib.cell_of_heap z1 3; clear z1) | (go_at_call 8; refine (H8.out _ B1.out).mono ?_; rintro e w2 ⟨rfl, b2⟩))
    have B2 : Hid (Below w.heap.size w w2) := below_from B1.out b2.out B1.out.size
    clear c0 c1 c2 c3 b1 b2
    go_wp2_with (go_at_call 7; refine (H7.out _).mono ?_; rintro e w3 ⟨rfl, b3⟩)
    go_ret
    exact ⟨rfl, below_from B2.out b3 B2.out.size⟩
  | true =>
    have HG := HA.out.st hf
    obtain ⟨f1, f2, f3, f4, f5⟩ := fewV_le hf
    have HS : Hid (StG w qH nH cH qv nv r m d T L S) := HG
    obtain ⟨t, ht⟩ : ∃ t, (startR now T L S).1 = t := ⟨_, rfl⟩
    obtain ⟨N, hN⟩ : ∃ N, (startR now T L S).2.1 = N := ⟨_, rfl⟩
    obtain ⟨en', he⟩ : ∃ x, (startR now T L S).2.2 = x := ⟨_, rfl⟩
    have H9 : Hid (∀ W, Below w.heap.size w W → Calls Try.prog 9 #[.int .i64 now, .slice qH nH cH, .slice qv nv cv, .slice r m d] W fun e w' => ∃ p k c, e = .returned (.tuple #[.int .i64 t, .slice p k c, .int .i64 (en' : Nat)]) ∧ N.length = k ∧ Hid (NA w' p N ∧ Below W.heap.size W w')) := fun W b => (start_any now qH qv r nH cH nv cv m d T L S W (HS.out.below b)).mono fun e w' ⟨p, k, c, e1, e2, e3, e4⟩ => by
      rw [ht, he] at e1; rw [hN] at e2 e4; exact ⟨p, k, c, e1, e2, e4⟩
    have H10 : Hid (∀ W p5 c5 p6 c6, Below w.heap.size w W → VA W p5 L → SlS W p6 m c6 S → Calls Try.prog 10 #[.int .i64 now, .slice qH nH cH, .slice p5 nv c5, .slice p6 m c6] W fun e w' => ∃ p k c, e = .returned (.tuple #[.int .i64 t, .slice p k c, .int .i64 (en' : Nat)]) ∧ N.length = k ∧ Hid (NA w' p N ∧ Below W.heap.size W w') ∧ (w'.cell? ⟨w.heap.size, 0, none⟩ = W.cell? ⟨w.heap.size, 0, none⟩ ∨ True)) := fun W p5 c5 p6 c6 b hv hs => by
      have g := HS.out.below b
      refine (rstart_any now qH p5 p6 nH cH nv c5 m c6 T L S W ⟨g.t, g.lt, hs, hv, g.o, g.lr, g.n1, g.n2, g.n3, g.ct⟩).mono fun e w' ⟨p, k, c, e1, e2, e3, e4⟩ => ?_
      rw [ht, he] at e1; rw [hN] at e2 e4; exact ⟨p, k, c, e1, e2, e4, .inr trivial⟩
    have HM1 : Hid (N.length ≤ 1000000) := by
      have h1 := start_len now T L S
      have h2 := HS.out.lt
      have h3 := HS.out.n1
      rw [hN] at h1
      show N.length ≤ _
      omega
    have hnv : nv ≤ 30 := by have := HA.out.vl; omega
    have hm3 : m ≤ 30 := f5
    rw [hf] at H8
    clear hf HG ht hN he f1 f2 f3 f4 f5
    go_enter Try.func3, Try.ntmps3
    go_upto_region 1 with fail
    generalize w.alloc (.cells #[.int .i64 now, .int .i64 rt, .slice qH nH cH, .slice qL nL cL] 24) = W at *
    go_upto_region 3 with (first | (go_at_call 7; refine (H7.out _).mono ?_; rintro e w1 ⟨rfl, b1⟩; have B1 : Hid (Below w.heap.size w w1 ∧ Below W.heap.size W w1) := ⟨below_from B0.out b1 B0.out.size, b1⟩; have z1 := at_below b1 (Nat.le_refl _) HN.out; have c0 := Lib.cell_of_heap z1 0; have c1 := Lib.cell_of_heap z1 1; have c2 := Lib.cell_of_heap z1 2; have c3 := Lib.cell_of_heap z1 3; clear z1 b1) | (go_at_call 8; refine (H8.out _ B1.out.1).mono ?_; rintro e w2 ⟨rfl, b2⟩))
    have B2 : Hid (Below w.heap.size w w2 ∧ w2.heap[w.heap.size]? = some (.cells #[.int .i64 now, .int .i64 rt, .slice qH nH cH, .slice qL nL cL] 24)) := ⟨below_from B1.out.1 b2.out B1.out.1.size, at_below (below_from B1.out.2 b2.out B1.out.2.size) (Nat.le_refl _) HN.out⟩
    clear c0 c1 c2 c3 b2 B1
    have c0 := Lib.cell_of_heap B2.out.2 0
    have c2 := Lib.cell_of_heap B2.out.2 2
    go_upto_region 4 with (go_at_call 9; refine (H9.out _ B2.out.1).mono ?_; rintro e w3 ⟨p3, k3, c3, rfl, n3, h3⟩)
    have B3 : Hid (Below w.heap.size w w3) := below_from B2.out.1 h3.out.2 B2.out.1.size
    have Y3 : Hid (∀ W, Below w3.heap.size w3 W → W.cell? ⟨w.heap.size, 0, none⟩ = some (.int .i64 now) ∧ W.cell? ⟨w.heap.size, 2, none⟩ = some (.slice qH nH cH)) := fun W b => ⟨cell_below c0 (below_from h3.out.2 b h3.out.2.size), cell_below c2 (below_from h3.out.2 b h3.out.2.size)⟩
    have H11 : Hid (∀ W, Below w3.heap.size w3 W → Calls Try.prog 11 #[.slice qv nv cv] W fun e w' => ∃ p c', e = .returned (.slice p nv c') ∧ Hid (VA w' p L ∧ Below W.heap.size W w' ∧ Below w3.heap.size w3 w') ∧ (w'.cell? ⟨w.heap.size, 0, none⟩ = some (.int .i64 now) ∧ w'.cell? ⟨w.heap.size, 2, none⟩ = some (.slice qH nH cH))) := fun W b => by
      have b7 := below_from B3.out b B3.out.size
      refine (vplain_any W qv nv cv L HA.out.vl (by omega) (HA.out.v.below b7)).mono ?_
      rintro e w' ⟨p, c', rfl, h⟩
      have b8 := below_from b h.out.2 b.size
      exact ⟨p, c', rfl, ⟨h.out.1.ga viC_len, h.out.2, b8⟩, Y3.out w' b8⟩
    have H12 : Hid (∀ W, Below w3.heap.size w3 W → Calls Try.prog 12 #[.slice r m d] W fun e w' => ∃ p c', e = .returned (.slice p m c') ∧ Hid (SlS w' p m c' S ∧ Below W.heap.size W w' ∧ Below w3.heap.size w3 w') ∧ (w'.cell? ⟨w.heap.size, 0, none⟩ = some (.int .i64 now) ∧ w'.cell? ⟨w.heap.size, 2, none⟩ = some (.slice qH nH cH))) := fun W b => by
      have b7 := below_from B3.out b B3.out.size
      refine (plain_any W r m d S HA.out.s.m (by omega) (HA.out.s.s.below b7)).mono ?_
      rintro e w' ⟨p, c', rfl, h⟩
      have b8 := below_from b h.out.2 b.size
      exact ⟨p, c', rfl, ⟨⟨h.out.1.ga slC_len, HA.out.s.h, fun e => by subst e; exact h.out.1.nilc, HA.out.s.m⟩, h.out.2, b8⟩, Y3.out w' b8⟩
    have H10' : Hid (∀ W p5 c5 p6 c6, Below w3.heap.size w3 W → VA W p5 L → SlS W p6 m c6 S → Calls Try.prog 10 #[.int .i64 now, .slice qH nH cH, .slice p5 nv c5, .slice p6 m c6] W fun e w' => ∃ p k c, e = .returned (.tuple #[.int .i64 t, .slice p k c, .int .i64 (en' : Nat)]) ∧ N.length = k ∧ Hid (NA w' p N ∧ Below w3.heap.size w3 w') ∧ (w'.cell? ⟨w.heap.size, 0, none⟩ = some (.int .i64 now) ∧ w'.cell? ⟨w.heap.size, 2, none⟩ = some (.slice qH nH cH))) := fun W p5 c5 p6 c6 b hv hs => by
      refine (H10.out W p5 c5 p6 c6 (below_from B3.out b B3.out.size) hv hs).mono fun e w' ⟨p, k, c, e1, e2, e3, _⟩ => ?_
      have b8 := below_from b e3.out.2 b.size
      exact ⟨p, k, c, e1, e2, ⟨e3.out.1, b8⟩, Y3.out w' b8⟩
    have N3 : Hid (NA w3 p3 N) := h3.out.1
    have z0 := (Y3.out w3 (Below.refl _ _)).1
    have z2 := (Y3.out w3 (Below.refl _ _)).2
    have D3 : Hid (Below w3.heap.size w3 w3.drew) := (Below.refl _ _).drew
    clear c0 c2 h3 B2 H10
    go_region_held3 (fun W : World => W.cell? ⟨w.heap.size, 0, none⟩ = some (.int .i64 now) ∧ W.cell? ⟨w.heap.size, 2, none⟩ = some (.slice qH nH cH)) (first | (with_reducible assumption) | (with_reducible exact z5) | (with_reducible exact z6) | (with_reducible exact z7) | go_keep) (first | (go_at_call 11; refine (H11.out _ (by first | exact D3.out | exact h6.out.2.2)).mono ?_; rintro e w5 ⟨p5, c5, rfl, h5, z5⟩) | (go_at_call 12; refine (H12.out _ (by first | exact D3.out | exact h5.out.2.2)).mono ?_; rintro e w6 ⟨p6, c6, rfl, h6, z6⟩) | (go_at_call 10; refine (H10'.out _ _ _ _ _ (by first | exact h6.out.2.2 | exact h5.out.2.2) (by first | exact h5.out.1 | exact h5.out.1.below h6.out.2.1) (by first | exact h6.out.1 | exact h6.out.1.below h5.out.2.1)).mono ?_; rintro e w7 ⟨p7, k7, c7, rfl, n7, h7, z7⟩))
    all_goals
      obtain rfl : k3 = k7 := n3.symm.trans n7
      have H13 : Hid (Calls Try.prog 13 #[.slice p3 k3 c3, .slice p7 k3 c7] w7 fun e w' => e = .returned (.bool true) ∧ Hid (Below w7.heap.size w7 w')) := same_any w7 k3 c3 c7 p3 p7 N (N3.out.below h7.out.2) h7.out.1 n3 (by have := HM1.out; omega)
      go_wp2_with (go_at_call 13; refine H13.out.mono ?_; rintro e w8 ⟨rfl, b8⟩)
      go_ret
      exact ⟨rfl, below_from (below_from B3.out h7.out.2 B3.out.size) b8.out (Nat.le_trans B3.out.size h7.out.2.size)⟩
end Go.Proofs.Ytjgibngnjlciaaa
