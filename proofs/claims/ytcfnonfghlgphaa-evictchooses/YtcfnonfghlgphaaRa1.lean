/-
  The document's victims: plain, before, twice.
-/
import Derived.Test.YtcfnonfghlgphaaGn
import Derived.Deep.RegionLaw
import Derived.Deep.AppendLies
import Derived.BigRegion
namespace Go.Proofs.Ytcfnonfghlgphaa
open Go.RowKit Go.Maps Go.WideMaps Go.Sort

theorem uj_at17 {L : List Vi} (hu : Uj L) {a b : Vi} {i k : Nat} (ha : L[i]? = some a) (hb : L[k]? = some b) (e : a.j = b.j) : i = k ∧ a = b := by
  obtain ⟨l1, e1⟩ := List.getElem?_eq_some_iff.1 ha
  obtain ⟨l2, e2⟩ := List.getElem?_eq_some_iff.1 hb
  rcases Nat.lt_trichotomy i k with q | q | q
  · have := List.pairwise_iff_getElem.1 hu i k l1 l2 q
    rw [e1, e2] at this
    exact absurd e this
  · subst q; exact ⟨rfl, Option.some.inj (ha.symm.trans hb)⟩
  · have := List.pairwise_iff_getElem.1 hu k i l2 l1 q
    rw [e1, e2] at this
    exact absurd e.symm this
theorem info65 : (Try.prog.info? 65).map (fun i => (i.zero, i.size, i.bytes)) = some (some (.agg #[.int .i64 0, .int .i64 0, .int .i64 0, .slice none 0 0, .slice none 0 0]), 5, 72) := by kernel_rfl
/-- rows of the document's victims -/
abbrev WR (b : Nat) (w : World) (v : Value) (L : List Vi) : Prop := GRow 65 5 viC b w v L
theorem wr_add {w wr w4 : World} {p : Option Addr} {k c g cap : Nat} {L : List Vi} {e : Vi} {xs : List Value} {o : Obj} (hL : L[k]? = some e) (hB : Below w.heap.size w wr) (hO : WR w.heap.size wr (.slice p k c) (L.take k)) (ho : w4.ownsRow w.heap.size 65 5 (.slice (some ⟨g, 0, none⟩) (k + 1) cap) (k + 1) (xs ++ viC e)) (hx : xs = (L.take k).flatMap viC) (hg : ((wr.alloc o).drew).grownBy w4 (Value.slice p k c).ownBlock) : WR w.heap.size w4 (.slice (some ⟨g, 0, none⟩) (k + 1) cap) (L.take (k + 1)) ∧ Below w.heap.size w w4 := by
  have hk := (List.getElem?_eq_some_iff.1 hL).1
  have hsz : w.heap.size ≤ ((wr.alloc o).drew).heap.size := by have := hB.size; simp; omega
  refine ⟨?_, ((hB.alloc hB.size _).drew).trans (below_grown hg hsz fun g e => hO.ge e)⟩
  unfold WR GRow
  rw [List.take_add_one, hL, List.length_append, List.length_take, Nat.min_eq_left (by omega), List.flatMap_append]
  rw [hx] at ho
  simpa using ho
set_option maxHeartbeats 400000 in
theorem before_raw (aj ap as' bj bp bs : Int) (x y u v : Value) (w : World) : Calls Try.prog 44 #[.agg #[.int .i64 aj, .int .i64 ap, .int .i64 as', x, y], .agg #[.int .i64 bj, .int .i64 bp, .int .i64 bs, u, v]] w fun e w' => e = .returned (.bool (decide (ap < bp ∨ (ap = bp ∧ (bs < as' ∨ (as' = bs ∧ bj < aj)))))) ∧ RowKit.Below w.heap.size w w' := by
  by_cases h1 : ap = bp
  · subst h1
    by_cases h2 : as' = bs
    · subst h2
      go_enter Try.func44, Try.ntmps44
      go_wp2_with fail
      go_ret
      exact ⟨ret_b (by simp), by go_grown⟩
    · have h2' : (as' == bs) = false := by rw [beq_eq_false_iff_ne]; exact h2
      go_enter Try.func44, Try.ntmps44
      go_wp2_with fail
      go_ret
      exact ⟨ret_b (by simp [h2]), by go_grown⟩
  · have h1' : (ap == bp) = false := by rw [beq_eq_false_iff_ne]; exact h1
    go_enter Try.func44, Try.ntmps44
    go_wp2_with fail
    go_ret
    exact ⟨ret_b (by simp [h1]), by go_grown⟩
theorem vb_any (a b : Vi) (w : World) : Calls Try.prog 44 #[.agg #[.int .i64 a.j, .int .i64 a.p, .int .i64 a.s, .slice a.qT a.nT a.cT, .slice a.qN a.nN a.cN], .agg #[.int .i64 b.j, .int .i64 b.p, .int .i64 b.s, .slice b.qT b.nT b.cT, .slice b.qN b.nN b.cN]] w fun e w' => e = .returned (.bool (decide (vb a b))) ∧ RowKit.Below w.heap.size w w' := before_raw _ _ _ _ _ _ _ _ _ _ w
set_option maxHeartbeats 2000000 in
set_option maxRecDepth 100000 in
theorem twice_any (w : World) (q : Option Addr) (n c : Nat) (L : List Vi) (hl : Hid (L.length = n)) (hn : n ≤ 1000000) (hr : Hid (VA w q L)) :
    Calls Try.prog 24 #[.slice q n c] w fun e w' => e = .returned (.bool (decide (¬ Uj L))) ∧ Hid (Below w.heap.size w w') := by
  go_enter Try.func24, Try.ntmps24
  go_wp2_with fail
  go_loopw [3, 4] (fun x _ wr => ∃ i : Nat, x = .int .i64 i ∧ i ≤ n ∧ Hid (Uj (L.take i) ∧ Below w.heap.size w wr)) (fun x _ _ => n - (intOf x).toNat)
  case atStart => exact ⟨0, rfl, Nat.zero_le _, List.Pairwise.nil, Below.refl _ _⟩
  case round =>
    obtain ⟨i, rfl, hi, HB⟩ := hrel
    by_cases h0 : i = n
    · subst h0
      have HU : Hid (Uj L) := by
        have := HB.out.1
        rwa [List.take_of_length_le (Nat.le_of_eq hl.out)] at this
      go_wp2_with fail
      go_ret
      exact ⟨ret_b (by simp [HU.out]), HB.out.2⟩
    · have hlt' : (i : Int) < (n : Int) := by omega
      have hd : decide ((i : Int) < (n : Int)) = true := decide_eq_true hlt'
      obtain ⟨x, hx⟩ : ∃ x, L[i]? = some x := ⟨L[i]'(by have := hl.out; omega), List.getElem?_eq_getElem _⟩
      have HX : Hid (L[i]? = some x) := hx
      clear hx
      go_wp2_with fail
      go_loopw [4] (fun y wr => ∃ k : Nat, y = .int .i64 k ∧ k ≤ i ∧ Hid ((∀ (k' : Nat) (y : Vi), k' < k → L[k']? = some y → y.j ≠ x.j) ∧ Below w.heap.size w wr)) (fun y _ => i - (intOf y).toNat)
      case atStart => exact ⟨0, rfl, Nat.zero_le _, fun k' y h => absurd h (Nat.not_lt_zero _), HB.out.2⟩
      case round =>
        obtain ⟨k, rfl, hk, HK⟩ := hrel
        by_cases k0 : k = i
        · subst k0
          have HU : Hid (Uj (L.take (k + 1)) ∧ k + 1 ≤ n) := by
            refine ⟨?_, by omega⟩
            rw [take_next HX.out, uj_add]
            refine ⟨HB.out.1, fun a ha => ?_⟩
            obtain ⟨j, hj⟩ := List.mem_iff_getElem?.1 ha
            rw [List.getElem?_take] at hj
            split at hj
            · rename_i hjk
              exact HK.out.1 j a hjk hj
            · cases hj
          go_wp2_with fail
          exact ⟨⟨k + 1, by simp, HU.out.2, HU.out.1, HK.out.2⟩, by simp only [intOf]; omega⟩
        · have hlk : (k : Int) < (i : Int) := by omega
          have hkn : (k : Int) < (n : Int) := by omega
          obtain ⟨y, hy⟩ : ∃ y, L[k]? = some y := ⟨L[k]'(by have := hl.out; omega), List.getElem?_eq_getElem _⟩
          obtain ⟨g, o, rfl, c0, _⟩ := VA.at (hr.out.below HK.out.2) hy
          obtain ⟨g', o', e', d0, _⟩ := VA.at (hr.out.below HK.out.2) HX.out
          cases e'
          have hgb := cell_lt c0
          simp only at hgb
          have HY : Hid (L[k]? = some y) := hy
          have DW : Hid (∀ j, Below w.heap.size w (wr.drewN j)) := fun j => below_drewN HK.out.2 j
          clear hy
          by_cases hj : y.j = x.j
          · have HU : Hid (¬ Uj L) := fun hu => by
              obtain ⟨q1, _⟩ := uj_at17 hu HY.out HX.out hj
              omega
            have hjj : y.j = x.j := hj
            generalize y.j = yj at *
            subst hjj
            generalize x.j = xj at *
            go_upto_region 7 with fail
            go_quiet (fail)
            go_wp2_with fail
            go_ret
            exact ⟨ret_b (by simp [HU.out]), DW.out _⟩
          · have hj2 : (y.j == x.j) = false := by rw [beq_eq_false_iff_ne]; exact hj
            have HN : Hid ((∀ (k' : Nat) (z : Vi), k' < k + 1 → L[k']? = some z → z.j ≠ x.j) ∧ k + 1 ≤ i) := by
              refine ⟨fun k' z h1 h2 => ?_, by omega⟩
              by_cases q : k' = k
              · subst q
                have : y = z := Option.some.inj (HY.out.symm.trans h2)
                rw [← this]; exact hj
              · exact HK.out.1 k' z (by omega) h2
            clear HY
            have HNX : Hid (∀ W, Below w.heap.size w W → (∀ (k' : Nat) (z : Vi), k' < k + 1 → L[k']? = some z → z.j ≠ x.j) ∧ Below w.heap.size w W) := fun W b => ⟨HN.out.1, b⟩
            generalize y.j = yj at *
            go_upto_region 7 with fail
            go_quiet (fail)
            go_wp2_with fail
            exact ⟨⟨k + 1, by simp, HN.out.2, HNX.out _ (DW.out _)⟩, by simp only [intOf]; omega⟩
end Go.Proofs.Ytcfnonfghlgphaa
