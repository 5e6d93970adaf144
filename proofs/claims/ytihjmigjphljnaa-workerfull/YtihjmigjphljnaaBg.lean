/-
  The document's Whole.
-/
import Derived.Test.YtihjmigjphljnaaAk
import Derived.Test.YtihjmigjphljnaaBf
namespace Go.Proofs.Ytihjmigjphljnaa
open Go.RowKit Go.Maps
open Tk

set_option maxHeartbeats 8000000 in
set_option maxRecDepth 100000 in
theorem rwhole_raw (w : World) (p : Value) (L : List Nd) (n : Nat) (hn : L.length = n) (hl : n ≤ 12) (hok : ∀ y ∈ L, y.v.ok = true) (H : Hid (∀ W, Below w.heap.size w W → Calls Try.prog 15 #[p] W fun e w' => ∃ q m c', e = .returned (.slice q m c') ∧ Hid (m = n ∧ VR w' q L ∧ Below W.heap.size W w' ∧ ∀ g, q = some ⟨g, 0, none⟩ → W.heap.size ≤ g))) :
    Calls Try.prog 17 #[p] w fun e w' => e = .returned (vec (whl L)) ∧ Below w.heap.size w w' := by
  have HN : Hid (L.length = n) := hn
  have HO : Hid (∀ y ∈ L, y.v.ok = true) := hok
  have BB : Hid (Below w.heap.size w ((w.alloc (.cells #[.int .i64 0, .int .i64 0, .int .i64 0, .int .i64 0] 32)).alloc (.cells #[.int .i64 0, .int .i64 0, .int .i64 0, .int .i64 0] 32))) := ((Below.refl _ w).alloc (Nat.le_refl _) _).alloc (by simp) _
  have Z0 : Hid (((w.alloc (.cells #[.int .i64 0, .int .i64 0, .int .i64 0, .int .i64 0] 32)).alloc (.cells #[.int .i64 0, .int .i64 0, .int .i64 0, .int .i64 0] 32)).heap[w.heap.size]? = some (vObj V.nil)) := at_alloc (o := .cells #[.int .i64 0, .int .i64 0, .int .i64 0, .int .i64 0] 32) (new0 (w := w))
  have Z1 : Hid (((w.alloc (.cells #[.int .i64 0, .int .i64 0, .int .i64 0, .int .i64 0] 32)).alloc (.cells #[.int .i64 0, .int .i64 0, .int .i64 0, .int .i64 0] 32)).heap[w.heap.size + 1]? = some (vObj V.nil)) := new1 (w := w)
  clear hn hok
  go_enter Try.func17, Try.ntmps17
  go_upto_region 2 with fail
  generalize (w.alloc (.cells #[.int .i64 0, .int .i64 0, .int .i64 0, .int .i64 0] 32)).alloc (.cells #[.int .i64 0, .int .i64 0, .int .i64 0, .int .i64 0] 32) = W at *
  go_upto_region 3 with (go_at_call 15; refine (H.out _ BB.out).mono ?_; rintro e w1 ⟨q, m, c, rfl, h1⟩; obtain rfl := h1.out.1)
  have HW : Hid (WhS w w1 (w.heap.size + 1) q L V.nil) := by
    have h2 := h1.out
    refine ⟨below_from BB.out h2.2.2.1 BB.out.size, at_below h2.2.2.1 (Nat.le_refl _) Z0.out, at_below h2.2.2.1 (Nat.le_refl _) Z1.out, h2.2.1, Nat.lt_succ_self _, fun k e => ?_⟩
    have h3 := h2.2.2.2 k e
    have h4 := (Array.getElem?_eq_some_iff.1 Z1.out).1
    omega
  clear H BB Z0 Z1 h1
  go_wp2_with fail
  go_loopw [5] (fun t wr => ∃ k : Nat, k ≤ m ∧ t = .int .i64 k ∧ Hid (WhS w wr (w.heap.size + 1) q L (whl (L.take k)))) (fun t _ => m - (intOf t).toNat)
  case atStart => exact ⟨0, Nat.zero_le _, rfl, HW.out⟩
  case round =>
    obtain ⟨k, hk, rfl, HI⟩ := hrel
    clear HW
    by_cases hlt : k < m
    · obtain ⟨y, hy⟩ : ∃ y, L[k]? = some y := ⟨L[k]'(by have := HN.out; omega), List.getElem?_eq_getElem _⟩
      obtain ⟨g, rfl⟩ := HI.out.r.some hy
      have hi : (k : Int) < (m : Int) := by omega
      have HY : Hid (whl (L.take (k + 1)) = wst (whl (L.take k)) y.v) := by rw [List.take_add_one, hy]; exact whl_snoc _ _
      have hv1 := okV (HO.out y (List.mem_of_getElem? hy))
      have hv2 := okV (whl_ok (L := L.take k) fun n hn => HO.out n (List.mem_of_mem_take hn))
      have HYY : Hid (L[k]? = some y) := hy
      have I5 : Hid (WhS w wr (w.heap.size + 1) (some ⟨g, 0, none⟩) L (whl (L.take k))) := HI.out
      clear hy HI
      generalize hsv : whl (L.take k) = sv at *
      go_wp2_with fail
      go_loopw [6] (fun t wq => ∃ i : Nat, i ≤ 4 ∧ t = .int .i64 i ∧ Hid (WhS w wq (w.heap.size + 1) (some ⟨g, 0, none⟩) L (mid sv y.v i))) (fun t _ => 4 - (intOf t).toNat)
      case atStart => exact ⟨0, Nat.zero_le _, rfl, I5.out⟩
      case round =>
        obtain ⟨i, hi4, rfl, HJ⟩ := hrel
        clear I5
        obtain ⟨c0, c1, c2, c3, f0, f1, f2, f3, -⟩ := cells4 HJ.out.x
        obtain ⟨x0, x1, x2, x3, x4, x5, x6, x7⟩ := HJ.out.r.cells HYY.out
        rcases (by omega : i = 4 ∨ i = 0 ∨ i = 1 ∨ i = 2 ∨ i = 3) with rfl | rfl | rfl | rfl | rfl
        · have HE : Hid (WhS w wr (w.heap.size + 1) (some ⟨g, 0, none⟩) L (whl (L.take (k + 1)))) := by rw [HY.out]; exact HJ.out
          clear HJ c0 c1 c2 c3 f0 f1 f2 f3 HY x0 x1 x2 x3 x4 x5 x6 x7
          go_wp2_with fail
          exact ⟨⟨k + 1, by omega, by simp, HE.out⟩, by simp [intOf]; omega⟩
        · have hw : IntKind.i64.wrap (sv.a + y.v.a) = sv.a + y.v.a := wrap_ok (by omega) (by omega)
          obtain ⟨E, hE⟩ : ∃ E, min (sv.a + y.v.a) 1099511627776 = E := ⟨_, rfl⟩
          have HK : Hid (WhS w (wr.drew.setCell ⟨w.heap.size + 1, 0, none⟩ (.int .i64 E)) (w.heap.size + 1) (some ⟨g, 0, none⟩) L (mid sv y.v 1)) := by rw [← hE]; exact (HJ.out.below ((Below.refl _ wr).drew)).set rfl
          replace c0 : wr.cell? ⟨w.heap.size + 1, 0, none⟩ = some (.int .i64 sv.a) := c0
          replace x2 : wr.cell? ⟨g, k * 8 + 2 + 0, none⟩ = some (.int .i64 y.v.a) := x2
          clear HJ HY
          go_wp2_with fail
          go_region
          all_goals go_wp2_with fail
          all_goals exact ⟨⟨1, by omega, by simp, HK.out⟩, by simp [intOf]⟩
        · have hw : IntKind.i64.wrap (sv.b + y.v.b) = sv.b + y.v.b := wrap_ok (by omega) (by omega)
          obtain ⟨E, hE⟩ : ∃ E, min (sv.b + y.v.b) 1099511627776 = E := ⟨_, rfl⟩
          have HK : Hid (WhS w (wr.drew.setCell ⟨w.heap.size + 1, 1, none⟩ (.int .i64 E)) (w.heap.size + 1) (some ⟨g, 0, none⟩) L (mid sv y.v 2)) := by rw [← hE]; exact (HJ.out.below ((Below.refl _ wr).drew)).set rfl
          replace c1 : wr.cell? ⟨w.heap.size + 1, 1, none⟩ = some (.int .i64 sv.b) := c1
          replace x3 : wr.cell? ⟨g, k * 8 + 2 + 1, none⟩ = some (.int .i64 y.v.b) := x3
          clear HJ HY
          go_wp2_with fail
          go_region
          all_goals go_wp2_with fail
          all_goals exact ⟨⟨2, by omega, by simp, HK.out⟩, by simp [intOf]⟩
        · have hw : IntKind.i64.wrap (sv.c + y.v.c) = sv.c + y.v.c := wrap_ok (by omega) (by omega)
          obtain ⟨E, hE⟩ : ∃ E, min (sv.c + y.v.c) 1099511627776 = E := ⟨_, rfl⟩
          have HK : Hid (WhS w (wr.drew.setCell ⟨w.heap.size + 1, 2, none⟩ (.int .i64 E)) (w.heap.size + 1) (some ⟨g, 0, none⟩) L (mid sv y.v 3)) := by rw [← hE]; exact (HJ.out.below ((Below.refl _ wr).drew)).set rfl
          replace c2 : wr.cell? ⟨w.heap.size + 1, 2, none⟩ = some (.int .i64 sv.c) := c2
          replace x4 : wr.cell? ⟨g, k * 8 + 2 + 2, none⟩ = some (.int .i64 y.v.c) := x4
          clear HJ HY
          go_wp2_with fail
          go_region
          all_goals go_wp2_with fail
          all_goals exact ⟨⟨3, by omega, by simp, HK.out⟩, by simp [intOf]⟩
        · have hw : IntKind.i64.wrap (sv.d + y.v.d) = sv.d + y.v.d := wrap_ok (by omega) (by omega)
          obtain ⟨E, hE⟩ : ∃ E, min (sv.d + y.v.d) 1099511627776 = E := ⟨_, rfl⟩
          have HK : Hid (WhS w (wr.drew.setCell ⟨w.heap.size + 1, 3, none⟩ (.int .i64 E)) (w.heap.size + 1) (some ⟨g, 0, none⟩) L (mid sv y.v 4)) := by rw [← hE]; exact (HJ.out.below ((Below.refl _ wr).drew)).set rfl
          replace c3 : wr.cell? ⟨w.heap.size + 1, 3, none⟩ = some (.int .i64 sv.d) := c3
          replace x5 : wr.cell? ⟨g, k * 8 + 2 + 3, none⟩ = some (.int .i64 y.v.d) := x5
          clear HJ HY
          go_wp2_with fail
          go_region
          all_goals go_wp2_with fail
          all_goals exact ⟨⟨4, by omega, by simp, HK.out⟩, by simp [intOf]⟩
    · obtain rfl : k = m := by omega
      have hi : ¬ (k : Int) < (k : Int) := by omega
      have HE : Hid (WhS w wr (w.heap.size + 1) q L (whl L)) := by
        have h1 := HI.out
        rw [List.take_of_length_le (by have := HN.out; omega)] at h1
        exact h1
      clear HI HN HO
      obtain ⟨c0, c1, c2, c3, -⟩ := cells4 HE.out.x
      obtain ⟨r0, r1, r2, r3, rf0, rf1, rf2, rf3, rs, rn⟩ := cells4 HE.out.z
      have Y := HE.out.b
      have HZ : Hid (wr.heap[w.heap.size]? = some (vObj V.nil)) := HE.out.z
      have HS : Hid (∃ sv, whl L = sv) := ⟨_, rfl⟩
      obtain ⟨sv, hsv⟩ := HS.out
      rw [hsv] at c0 c1 c2 c3
      have HS2 : Hid (whl L = sv) := hsv
      clear HE HS hsv
      go_wp2_with fail
      have r := at_set4 (v0 := .int .i64 sv.a) (v1 := .int .i64 sv.b) (v2 := .int .i64 sv.c) (v3 := .int .i64 sv.d) HZ.out
      obtain ⟨c0, c1, c2, c3, -⟩ := cells4 r
      refine bodyPost_ret (by simp [results, Try.results17, go_sem, c0, c1, c2, c3]; rfl) rfl ?_
      exact ⟨by rw [HS2.out]; rfl, (((Y.setCell (by simp) _).setCell (by simp) _).setCell (by simp) _).setCell (by simp) _⟩
theorem rwhole_any {w : World} {T : Nat → Prop} {rb : Nat} {D : List Nd} (h : Ref w T rb D) :
    Calls Try.prog 17 #[.pointer (some ⟨rb, 0, none⟩)] w fun e w' => e = .returned (vec (whl (D.filter Nd.lv))) ∧ Below w.heap.size w w' :=
  have hl : D.length ≤ 12 := by obtain ⟨⟨q, n, c, h1, -⟩, -⟩ := h; exact h1.len
  have ho : ∀ y ∈ D, y.ok := by obtain ⟨⟨q, n, c, h1, -⟩, -⟩ := h; exact h1.ok
  rwhole_raw w _ (D.filter Nd.lv) _ rfl (Nat.le_trans (List.length_filter_le ..) hl) (nok ho) fun _ b => rlive_any (h.keepB b)
end Go.Proofs.Ytihjmigjphljnaa
