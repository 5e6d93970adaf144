/-
  Whole.
-/
import Derived.Test.YtihjmigjphljnaaAj
namespace Go.Proofs.Ytihjmigjphljnaa
open Go.RowKit Go.Maps
open Tk

/-- one more node's capacity, held at the limit -/
def wst (v u : V) : V := ⟨min (v.a + u.a) 1099511627776, min (v.b + u.b) 1099511627776, min (v.c + u.c) 1099511627776, min (v.d + u.d) 1099511627776⟩
def whl (L : List Nd) : V := L.foldl (fun v n => wst v n.v) V.nil
theorem whl_snoc (L : List Nd) (n : Nd) : whl (L ++ [n]) = wst (whl L) n.v := by unfold whl; rw [List.foldl_append]; rfl
theorem wst_in {v u : V} (h : v.ok = true) (hu : u.ok = true) : (wst v u).ok = true := by
  have h1 := okV h
  have h2 := okV hu
  unfold wst V.ok fm okI
  simp only [Bool.and_eq_true, decide_eq_true_eq]
  omega
theorem whl_ok {L : List Nd} (h : ∀ n ∈ L, n.v.ok = true) : (whl L).ok = true := by
  unfold whl
  have : ∀ (L : List Nd) (v : V), v.ok = true → (∀ n ∈ L, n.v.ok = true) → (L.foldl (fun v n => wst v n.v) v).ok = true := by
    intro L
    induction L with
    | nil => exact fun v h _ => h
    | cons a r ih => exact fun v h hl => ih _ (wst_in h (hl a (List.mem_cons_self ..))) fun n hn => hl n (List.mem_cons_of_mem _ hn)
  exact this L V.nil rfl h
/-- the sum while a node is added: the first i resources are done -/
def mid (v u : V) (i : Nat) : V := ⟨if 0 < i then min (v.a + u.a) 1099511627776 else v.a, if 1 < i then min (v.b + u.b) 1099511627776 else v.b, if 2 < i then min (v.c + u.c) 1099511627776 else v.c, if 3 < i then min (v.d + u.d) 1099511627776 else v.d⟩
def vObj (v : V) : Obj := .cells #[.int .i64 v.a, .int .i64 v.b, .int .i64 v.c, .int .i64 v.d] 32 (0, 0)
/-- while the live ones are summed -/
structure WhS (w wr : World) (g : Nat) (q : Option Addr) (L : List Nd) (v : V) : Prop where
  b : Below w.heap.size w wr
  z : wr.heap[w.heap.size]? = some (vObj V.nil)
  x : wr.heap[g]? = some (vObj v)
  r : VR wr q L
  ge : w.heap.size < g
  ne : ∀ k, q = some ⟨k, 0, none⟩ → k ≠ g
theorem WhS.below {w wr W : World} {g : Nat} {q : Option Addr} {L : List Nd} {v : V} (h : WhS w wr g q L v) (b : Below wr.heap.size wr W) : WhS w W g q L v := ⟨below_from h.b b h.b.size, at_below b (Nat.le_refl _) h.z, at_below b (Nat.le_refl _) h.x, h.r.below b, h.ge, h.ne⟩
theorem vr_kp {w w1 : World} {g : Nat} {q : Option Addr} {L : List Nd} (h : VR w q L) (k : Kp (· = g) w w1) (hn : ∀ j, q = some ⟨j, 0, none⟩ → j ≠ g) : VR w1 q L := fun i n hi => by
  obtain ⟨j, e, hc⟩ := h i n hi
  refine ⟨j, e, fun t u hu => ?_⟩
  have h1 := hc t u hu
  have hl : j < w.heap.size := block_lt_of_cell h1
  unfold World.cell? at *
  rw [k.block j hl (hn j e)]
  exact h1
theorem WhS.set {w wr : World} {g : Nat} {q : Option Addr} {L : List Nd} {v : V} (h : WhS w wr g q L v) {i : Nat} {x : Int} {v' : V} (e : vObj v' = .cells (#[.int .i64 v.a, .int .i64 v.b, .int .i64 v.c, .int .i64 v.d].setIfInBounds i (.int .i64 x)) 32 (0, 0)) : WhS w (wr.setCell ⟨g, i, none⟩ (.int .i64 x)) g q L v' := by
  have k : Kp (· = g) wr (wr.setCell ⟨g, i, none⟩ (.int .i64 x)) := Kp.of_set (S := (· = g)) _ _ _ rfl
  have hl := (Array.getElem?_eq_some_iff.1 h.z).1
  have hge := h.ge
  exact ⟨h.b.setCell (by show w.heap.size ≤ g; omega) _, (k.block _ hl (by omega)).trans h.z, by rw [e]; exact setB h.x _, vr_kp h.r k h.ne, h.ge, h.ne⟩
theorem mid_at (v u : V) : mid v u 0 = v ∧ mid v u 4 = wst v u := ⟨rfl, rfl⟩
set_option maxHeartbeats 8000000 in
set_option maxRecDepth 100000 in
theorem whole_raw (w : World) (p : Value) (L : List Nd) (n : Nat) (hn : L.length = n) (hl : n ≤ 12) (hok : ∀ y ∈ L, y.v.ok = true) (H : Hid (∀ W, Below w.heap.size w W → Calls Try.prog 14 #[p] W fun e w' => ∃ q m c', e = .returned (.slice q m c') ∧ Hid (m = n ∧ VR w' q L ∧ Below W.heap.size W w' ∧ ∀ g, q = some ⟨g, 0, none⟩ → W.heap.size ≤ g))) :
    Calls Try.prog 16 #[p] w fun e w' => e = .returned (vec (whl L)) ∧ Below w.heap.size w w' := by
  have HN : Hid (L.length = n) := hn
  have HO : Hid (∀ y ∈ L, y.v.ok = true) := hok
  have BB : Hid (Below w.heap.size w ((w.alloc (.cells #[.int .i64 0, .int .i64 0, .int .i64 0, .int .i64 0] 32)).alloc (.cells #[.int .i64 0, .int .i64 0, .int .i64 0, .int .i64 0] 32))) := ((Below.refl _ w).alloc (Nat.le_refl _) _).alloc (by simp) _
  have Z0 : Hid (((w.alloc (.cells #[.int .i64 0, .int .i64 0, .int .i64 0, .int .i64 0] 32)).alloc (.cells #[.int .i64 0, .int .i64 0, .int .i64 0, .int .i64 0] 32)).heap[w.heap.size]? = some (vObj V.nil)) := at_alloc (o := .cells #[.int .i64 0, .int .i64 0, .int .i64 0, .int .i64 0] 32) (new0 (w := w))
  have Z1 : Hid (((w.alloc (.cells #[.int .i64 0, .int .i64 0, .int .i64 0, .int .i64 0] 32)).alloc (.cells #[.int .i64 0, .int .i64 0, .int .i64 0, .int .i64 0] 32)).heap[w.heap.size + 1]? = some (vObj V.nil)) := new1 (w := w)
  clear hn hok
  go_enter Try.func16, Try.ntmps16
  go_upto_region 2 with fail
  generalize (w.alloc (.cells #[.int .i64 0, .int .i64 0, .int .i64 0, .int .i64 0] 32)).alloc (.cells #[.int .i64 0, .int .i64 0, .int .i64 0, .int .i64 0] 32) = W at *
  go_upto_region 3 with (go_at_call 14; refine (H.out _ BB.out).mono ?_; rintro e w1 ⟨q, m, c, rfl, h1⟩; obtain rfl := h1.out.1)
  have HW : Hid (WhS w w1 (w.heap.size + 1) q L V.nil) := by
    have h2 := h1.out
    refine ⟨below_from BB.out h2.2.2.1 BB.out.size, at_below h2.2.2.1 (Nat.le_refl _) Z0.out, at_below h2.2.2.1 (Nat.le_refl _) Z1.out, h2.2.1, Nat.lt_succ_self _, fun k e => ?_⟩
    have h3 := h2.2.2.2 k e
    have h4 := (Array.getElem?_eq_some_iff.1 Z1.out).1
    omega
  clear H BB Z0 Z1 h1
  go_loopw [11] (fun t wr => ∃ k : Nat, k ≤ m ∧ t = .int .i64 k ∧ Hid (WhS w wr (w.heap.size + 1) q L (whl (L.take k)))) (fun t _ => m - (intOf t).toNat)
  case atStart => exact ⟨0, Nat.zero_le _, rfl, HW.out⟩
  case round =>
    obtain ⟨k, hk, rfl, HI⟩ := hrel
    clear HW
    by_cases hlt : k < m
    · obtain ⟨y, hy⟩ : ∃ y, L[k]? = some y := ⟨L[k]'(by have := HN.out; omega), List.getElem?_eq_getElem _⟩
      obtain ⟨g, rfl⟩ := HI.out.r.some hy
      obtain ⟨x0, x1, x2, x3, x4, x5, x6, x7⟩ := HI.out.r.cells hy
      have hi : (k : Int) < (m : Int) := by omega
      have B5 : Hid (Below wr.heap.size wr (wr.alloc (.cells #[.string y.nm, .int .i64 y.ep, .int .i64 y.v.a, .int .i64 y.v.b, .int .i64 y.v.c, .int .i64 y.v.d, .int .i64 y.sn, .bool y.lv] 46))) := (Below.refl _ _).alloc (Nat.le_refl _) _
      have HY : Hid (whl (L.take (k + 1)) = wst (whl (L.take k)) y.v) := by rw [List.take_add_one, hy]; exact whl_snoc _ _
      have hv1 := okV (HO.out y (List.mem_of_getElem? hy))
      have hv2 := okV (whl_ok (L := L.take k) fun n hn => HO.out n (List.mem_of_mem_take hn))
      have I5 : Hid (WhS w (wr.alloc (.cells #[.string y.nm, .int .i64 y.ep, .int .i64 y.v.a, .int .i64 y.v.b, .int .i64 y.v.c, .int .i64 y.v.d, .int .i64 y.sn, .bool y.lv] 46)) (w.heap.size + 1) (some ⟨g, 0, none⟩) L (whl (L.take k))) := HI.out.below B5.out
      clear hy HI
      generalize hsv : whl (L.take k) = sv at *
      have i0 := ix0 (.int .i64 y.v.a) (.int .i64 y.v.b) (.int .i64 y.v.c) (.int .i64 y.v.d)
      have i1 := ix1 (.int .i64 y.v.a) (.int .i64 y.v.b) (.int .i64 y.v.c) (.int .i64 y.v.d)
      have i2 := ix2 (.int .i64 y.v.a) (.int .i64 y.v.b) (.int .i64 y.v.c) (.int .i64 y.v.d)
      have i3 := ix3 (.int .i64 y.v.a) (.int .i64 y.v.b) (.int .i64 y.v.c) (.int .i64 y.v.d)
      go_upto_region 6 with fail
      clear x0 x1 x2 x3 x4 x5 x6 x7
      generalize wr.alloc (.cells #[.string y.nm, .int .i64 y.ep, .int .i64 y.v.a, .int .i64 y.v.b, .int .i64 y.v.c, .int .i64 y.v.d, .int .i64 y.sn, .bool y.lv] 46) = W5 at *
      clear B5
      go_loopw [17] (fun t wq => ∃ i : Nat, i ≤ 4 ∧ t = .int .i64 i ∧ Hid (WhS w wq (w.heap.size + 1) (some ⟨g, 0, none⟩) L (mid sv y.v i))) (fun t _ => 4 - (intOf t).toNat)
      case atStart => exact ⟨0, Nat.zero_le _, rfl, I5.out⟩
      case round =>
        obtain ⟨i, hi4, rfl, HJ⟩ := hrel
        clear I5
        obtain ⟨c0, c1, c2, c3, f0, f1, f2, f3, -⟩ := cells4 HJ.out.x
        rcases (by omega : i = 4 ∨ i = 0 ∨ i = 1 ∨ i = 2 ∨ i = 3) with rfl | rfl | rfl | rfl | rfl
        · have HE : Hid (WhS w wr (w.heap.size + 1) (some ⟨g, 0, none⟩) L (whl (L.take (k + 1)))) := by rw [HY.out]; exact HJ.out
          clear HJ c0 c1 c2 c3 f0 f1 f2 f3 i0 i1 i2 i3 HY
          go_wp2_with fail
          exact ⟨⟨k + 1, by omega, by simp, HE.out⟩, by simp [intOf]; omega⟩
        · have hw : IntKind.i64.wrap (sv.a + y.v.a) = sv.a + y.v.a := wrap_ok (by omega) (by omega)
          have HK : Hid (WhS w (wr.setCell ⟨w.heap.size + 1, 0, none⟩ (.int .i64 (min (sv.a + y.v.a) 1099511627776))) (w.heap.size + 1) (some ⟨g, 0, none⟩) L (mid sv y.v 1)) := HJ.out.set rfl
          replace c0 : wr.cell? ⟨w.heap.size + 1, 0, none⟩ = some (.int .i64 sv.a) := c0
          clear HJ HY
          go_wp2_with fail
          exact ⟨⟨1, by omega, by simp, HK.out⟩, by simp [intOf]⟩
        · have hw : IntKind.i64.wrap (sv.b + y.v.b) = sv.b + y.v.b := wrap_ok (by omega) (by omega)
          have HK : Hid (WhS w (wr.setCell ⟨w.heap.size + 1, 1, none⟩ (.int .i64 (min (sv.b + y.v.b) 1099511627776))) (w.heap.size + 1) (some ⟨g, 0, none⟩) L (mid sv y.v 2)) := HJ.out.set rfl
          replace c1 : wr.cell? ⟨w.heap.size + 1, 1, none⟩ = some (.int .i64 sv.b) := c1
          clear HJ HY
          go_wp2_with fail
          exact ⟨⟨2, by omega, by simp, HK.out⟩, by simp [intOf]⟩
        · have hw : IntKind.i64.wrap (sv.c + y.v.c) = sv.c + y.v.c := wrap_ok (by omega) (by omega)
          have HK : Hid (WhS w (wr.setCell ⟨w.heap.size + 1, 2, none⟩ (.int .i64 (min (sv.c + y.v.c) 1099511627776))) (w.heap.size + 1) (some ⟨g, 0, none⟩) L (mid sv y.v 3)) := HJ.out.set rfl
          replace c2 : wr.cell? ⟨w.heap.size + 1, 2, none⟩ = some (.int .i64 sv.c) := c2
          clear HJ HY
          go_wp2_with fail
          exact ⟨⟨3, by omega, by simp, HK.out⟩, by simp [intOf]⟩
        · have hw : IntKind.i64.wrap (sv.d + y.v.d) = sv.d + y.v.d := wrap_ok (by omega) (by omega)
          have HK : Hid (WhS w (wr.setCell ⟨w.heap.size + 1, 3, none⟩ (.int .i64 (min (sv.d + y.v.d) 1099511627776))) (w.heap.size + 1) (some ⟨g, 0, none⟩) L (mid sv y.v 4)) := HJ.out.set rfl
          replace c3 : wr.cell? ⟨w.heap.size + 1, 3, none⟩ = some (.int .i64 sv.d) := c3
          clear HJ HY
          go_wp2_with fail
          exact ⟨⟨4, by omega, by simp, HK.out⟩, by simp [intOf]⟩
    · obtain rfl : k = m := by omega
      have hi : ¬ (k : Int) < (k : Int) := by omega
      have HE : Hid (WhS w wr (w.heap.size + 1) q L (whl L)) := by
        have h1 := HI.out
        rw [List.take_of_length_le (by have := HN.out; omega)] at h1
        exact h1
      clear HI HN HO
      obtain ⟨c0, c1, c2, c3, -⟩ := cells4 HE.out.x
      obtain ⟨r0, r1, r2, r3, rf0, rf1, rf2, rf3, rs, rn⟩ := cells4 HE.out.z
      have Y := HE.out.b
      have HZ : Hid (wr.heap[w.heap.size]? = some (vObj V.nil)) := HE.out.z
      have HS : Hid (∃ sv, whl L = sv) := ⟨_, rfl⟩
      obtain ⟨sv, hsv⟩ := HS.out
      rw [hsv] at c0 c1 c2 c3
      have HS2 : Hid (whl L = sv) := hsv
      clear HE HS hsv
      go_wp2_with fail
      have r := at_set4 (v0 := .int .i64 sv.a) (v1 := .int .i64 sv.b) (v2 := .int .i64 sv.c) (v3 := .int .i64 sv.d) HZ.out
      obtain ⟨c0, c1, c2, c3, -⟩ := cells4 r
      refine bodyPost_ret (by simp [results, Try.results16, go_sem, c0, c1, c2, c3]; rfl) rfl ?_
      exact ⟨by rw [HS2.out]; rfl, (((Y.setCell (by simp) _).setCell (by simp) _).setCell (by simp) _).setCell (by simp) _⟩
theorem nok {D : List Nd} (h : ∀ n ∈ D, n.ok) : ∀ y ∈ D.filter Nd.lv, y.v.ok = true := fun y hy => (h y (List.mem_filter.1 hy).1).2.2.1
theorem whole_any {w : World} {X : Nat → Prop} {tb : Nat} {D : List Nd} (h : Tab w X tb D) :
    Calls Try.prog 16 #[.pointer (some ⟨tb, 0, none⟩)] w fun e w' => e = .returned (vec (whl (D.filter Nd.lv))) ∧ Below w.heap.size w w' :=
  whole_raw w _ (D.filter Nd.lv) _ rfl (Nat.le_trans (List.length_filter_le ..) h.len) (nok h.ok) fun _ b => live_any (h.keepB b)
theorem whole_nil (w : World) : Calls Try.prog 16 #[.pointer none] w fun e w' => e = .returned (vec V.nil) ∧ Below w.heap.size w w' :=
  whole_raw w _ [] 0 rfl (Nat.zero_le _) (fun _ h => nomatch h) fun W _ => live_nil W
end Go.Proofs.Ytihjmigjphljnaa
