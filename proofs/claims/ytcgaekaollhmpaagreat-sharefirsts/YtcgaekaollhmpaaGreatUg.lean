/-
  slices.Values of names, slices.AppendSeq, slices.Collect. slices.Sorted of names; asked. First.
-/
import Derived.RangeFuncBox
import Derived.RangeFuncLeaves
import Derived.Shelf.Abstract
import Derived.WalkKit
import Derived.OwnWalkIn
import Derived.TacticsInMore
import Derived.LoopNIn
import Derived.LoopIn
import Derived.Maps.AppendAt
import Derived.Test.YtcgaekaollhmpaaGreatUd
import Derived.Test.YtcgaekaollhmpaaGreatShelfC
import Derived.Sort.OwnSorted
namespace Go.Proofs.YtcgaekaollhmpaaGreat
open Go.RowKit Go.Shelf

attribute [local go_sem] Oper.semAt_some

/-- names as they lie, below n₀ -/
def NmA (n₀ : Nat) (W : World) (q : Option Addr) (L : List (List UInt8)) : Prop := ∀ j s, L[j]? = some s → ∃ b off, q = some ⟨b, off, none⟩ ∧ b < n₀ ∧ W.cell? ⟨b, off + j, none⟩ = some (.string ⟨⟨s⟩⟩)
theorem NmA.below {n₀ : Nat} {A B : World} {q : Option Addr} {L : List (List UInt8)} (h : NmA n₀ A q L) (b : Below n₀ A B) : NmA n₀ B q L := fun j s hs => by
  obtain ⟨g, o, e, hl, hc⟩ := h j s hs
  exact ⟨g, o, e, hl, (b.cell (p := ⟨g, o + j, none⟩) hl).trans hc⟩
set_option maxRecDepth 100000 in
set_option maxHeartbeats 2000000 in
theorem vals_in (F : Fence) (n : Nat) (h58 : F.fn 39) (hro : F.round = none) (hn : 1 ≤ n) (l Bs n₀ len cap : Nat) (q : Option Addr) (L : List (List UInt8)) (hl : L.length = len) (hreach : len ≤ 1000000) (J Jx : List (List UInt8) → World → Prop)
    (hY : ∀ pre x W, J pre W → pre.length < len → YieldAt F (n - 1) Tryz.prog l #[.string ⟨⟨x⟩⟩] W fun e W' =>
      (e = .returned (.bool true) ∧ J (pre ++ [x]) W' ∧ Below n₀ W W') ∨ (e = .returned (.bool false) ∧ Jx (pre ++ [x]) W'))
    (W : World) (hBs : W.cell? ⟨Bs, 0, none⟩ = some (.slice q len cap)) (hc : NmA n₀ W q L) (h0 : J [] W) :
    CallsIn F n Tryz.prog 39 #[.func (.yield l) #[] #[], .pointer (some ⟨Bs, 0, none⟩)] W fun e W' => (∃ v, e = .returned v) ∧
      ((∃ ys, ys = L ∧ J ys W') ∨ (∃ pre, pre <+: L ∧ Jx pre W')) := by
  refine callsIn_of_wp Tryz.func39 rfl h58 ?_ hro
  simp only [Tryz.ntmps39, List.size_toArray, List.length_cons, List.length_nil, Nat.reduceAdd, Nat.reduceSub, Array.replicate_succ, Array.replicate_zero, List.push_toArray, List.append_toArray, List.nil_append, List.cons_append]
  gi_wp2
  gi_loopw [7] (fun i wr => ∃ k : Nat, k ≤ len ∧ i = .int .i64 k ∧ J (L.take k) wr ∧ Below n₀ W wr)
    (fun i _ => len - (intOf i).toNat)
  case atStart => exact ⟨0, Nat.zero_le _, rfl, by rw [List.take_zero]; exact h0, Below.refl _ _⟩
  case round =>
    obtain ⟨k, hk, rfl, hJs, hnx⟩ := hrel
    by_cases hlt : k < len
    · obtain ⟨s, hs⟩ : ∃ s, L[k]? = some s := ⟨_, List.getElem?_eq_getElem (by omega)⟩
      obtain ⟨b, off, rfl, hb, hcx⟩ := (hc.below hnx) k s hs
      have htk : L.take (k + 1) = L.take k ++ [s] := by rw [List.take_add_one, hs]; rfl
      obtain ⟨fn, tmps, assign, body, hy, hR⟩ := hY _ s wr hJs (by rw [List.length_take]; omega)
      gi_wp2
      refine hR.mono ?_
      rintro e W3 (⟨rfl, hJ3, hk3⟩ | ⟨rfl, hJx3⟩)
      · gi_wp2
        go_roundw
        case rel => exact ⟨k + 1, by omega, by simp, by rw [htk]; exact hJ3, hnx.trans hk3⟩
        case measure => simp [intOf]; omega
      · gi_wp2
        refine bodyPost_ret (results_none rfl _ _ _) rfl ?_
        exact ⟨⟨_, rfl⟩, .inr ⟨_, by rw [← htk]; exact List.take_prefix _ _, hJx3⟩⟩
    · obtain rfl : k = len := by omega
      gi_wp2
      go_end0
      exact ⟨⟨_, rfl⟩, .inl ⟨_, List.take_of_length_le (by omega), hJs⟩⟩
set_option maxHeartbeats 1000000 in
theorem values_in (F : Fence) (n : Nat) (h36 : F.fn 20) (hro : F.round = none) (a : Option Addr) (len cap : Nat) (w : World) :
    CallsIn F n Tryz.prog 20 #[.slice a len cap] w fun e w' => e = .returned (.func (.func 39) #[] #[.pointer (some ⟨w.heap.size, 0, none⟩)]) ∧ w' = w.alloc (.cells #[.slice a len cap] 24) := by
  refine callsIn_of_wp Tryz.func20 rfl h36 ?_ hro
  simp only [Tryz.ntmps20, List.size_toArray, List.length_cons, List.length_nil, Nat.reduceAdd, Nat.reduceSub, Array.replicate_succ, Array.replicate_zero, List.push_toArray, List.append_toArray, List.nil_append, List.cons_append]
  gi_wp2
  go_ret
  exact ⟨rfl, rfl⟩
theorem values_stops (F : Fence) (n : Nat) (h58 : F.fn 39) (hro : F.round = none) (hn : 1 ≤ n) (Bs n₀ : Nat) (q : Option Addr) (len cap : Nat) (L : List (List UInt8)) (hl : L.length = len) (hreach : len ≤ 1000000) (w : World) (hBs : Bs < w.heap.size) (hn₀ : n₀ ≤ w.heap.size)
    (hc : w.cell? ⟨Bs, 0, none⟩ = some (.slice q len cap)) (hI : NmA n₀ w q L) :
    SeqStopsK F n Tryz.prog 39 #[.pointer (some ⟨Bs, 0, none⟩)] (fun x : List UInt8 => #[Value.string ⟨⟨x⟩⟩]) (Below n₀) (fun ys => ys = L) (fun pre => pre <+: L) len w := fun l J Jx W hW _ _ hY h0 =>
  vals_in F n h58 hro hn l Bs n₀ len cap q L hl hreach J Jx hY W ((hW.cell (p := ⟨Bs, 0, none⟩) hBs).trans hc) (hI.below (hW.mono hn₀)) h0
def sV (x : List UInt8) : Value := .string ⟨⟨x⟩⟩
set_option maxRecDepth 100000 in
set_option maxHeartbeats 2000000 in
theorem seq_in (F : Fence) (n : Nat) (h86 : F.fn 69) (h58 : F.fn 39) (hro : F.round = none) (hn : 3 ≤ n) (Bs : Nat) (q : Option Addr) (len cap : Nat) (L : List (List UInt8)) (hl : L.length = len) (hreach : len ≤ 1000000) (w : World) (hBs : Bs < w.heap.size)
    (hc : w.cell? ⟨Bs, 0, none⟩ = some (.slice q len cap)) (hI : NmA w.heap.size w q L) :
    CallsIn F n Tryz.prog 69 #[.slice none 0 0, .func (.func 39) #[] #[.pointer (some ⟨Bs, 0, none⟩)]] w fun e W' => ∃ v, e = .returned v ∧ W'.ownsRow w.heap.size 9 1 v L.length (L.map sV) ∧ (v = .slice none 0 0 ↔ L = []) ∧ Below w.heap.size w W' := by
  have h1 : 1 ≤ n := by omega
  obtain ⟨i0, hi, hz0, hz1, hz2⟩ := info_parts info9
  refine callsIn_of_wp_marks Tryz.func69 rfl h86 ?_ hro
  simp only [Tryz.ntmps69, List.size_toArray, List.length_cons, List.length_nil, Nat.reduceAdd, Nat.reduceSub, Array.replicate_succ, Array.replicate_zero, List.push_toArray, List.append_toArray, List.nil_append, List.cons_append]
  gi_wp2
  have bO := Boxed.new w 24 (.slice none 0 0)
  have hB0 : Below w.heap.size w (w.alloc (.cells #[.slice none 0 0] 24)) := (Below.refl _ w).alloc (Nat.le_refl _) _
  refine wpIn_rangeFunc_ownG hro h1 (gf := 39) (lb := #[.pointer (some ⟨Bs, 0, none⟩)]) rfl h58 (enters_of Tryz.func39 (by kernel_rfl) rfl)
    (values_stops F (n - 1) h58 hro (by omega) Bs w.heap.size q len cap L hl hreach _ (by simp; omega) (by simp) (cell_kept hB0 hc) (hI.below hB0)) belowK_t (belowK_b (by simp)) (Below.refl _ _) (fun _ => rfl)
    (fun pre W => (∃ v, Boxed W w.heap.size 24 v ∧ W.ownsRow w.heap.size 9 1 v pre.length (pre.map sV) ∧ (v = .slice none 0 0 ↔ pre = [])) ∧ Below w.heap.size w W)
    (fun _ _ _ => False)
    (OwnFrom.and (Own.from (holdsRow_own w.heap.size w.heap.size 24 9 1 (fun pre => pre.length) (fun pre => pre.map sV) (fun pre v => v = .slice none 0 0 ↔ pre = [])) _) (ownFrom_below (Nat.le_refl _) (by simp)))
    (fun _ _ _ _ _ hs _ _ => hs)
    ⟨⟨_, bO, World.ownsRow_nil _ _ _ _, by simp⟩, hB0⟩
    (fun x => { tmps := #[.slice none 0 0, .func (.func 39) #[] #[.pointer (some ⟨Bs, 0, none⟩)], .pointer (some ⟨w.heap.size, 0, none⟩), undef, .slice none 0 0, .string ⟨⟨x⟩⟩, .func (.func 39) #[] #[.pointer (some ⟨Bs, 0, none⟩)], .string ⟨⟨x⟩⟩, undef, undef, undef, undef, undef], defers := [] }) ?assign ?body ?done ?stop
  case assign =>
    intro l x W K hK
    gi_wp2
    exact hK
  case body =>
    rintro l pre x W ⟨⟨v, hv, hrow, hnil⟩, hB⟩ hlt
    have hc := hv.cell
    gi_wp2_with (gi_at_builtin; refine wpListIn_append_own _ rfl _ _ 24 rfl w.heap.size 9 i0 (.string ⟨#[]⟩) 1 16 Tryz.underlying24 hi hz0 hz1 hz2 rfl (by decide) _ _ _ rfl (hrow.alloc _) ⟨W.heap.size, 0, none⟩ 1 1 [sV x] rfl rfl (cell_one_new _ _ _) (by simp [sV, Value.oneCell']) (by unfold maxLen; omega) (by omega) (by have := hB.size; simp; omega) ?_; intro v' w1 hown' hgrow _; obtain ⟨g', cap', rfl⟩ := ownsRow_succ hown'; obtain ⟨hv1, hv2, hr2, hk2, hb2⟩ := hv.appended (by decide) hrow hB.size (Nat.le_refl _) hown' hgrow; have hc1 := hv1.cell; have hf1 := hv1.frozen)
    exact ⟨hk2.from _, hb2, ⟨_, hv2, by simpa using hr2, by simp⟩, hB.trans hb2⟩
  case done =>
    rintro D ys W hD rfl ⟨⟨v, hv, hrow, hnil⟩, hB⟩ hK
    have hc := hv.cell
    gi_wp2
    refine ⟨by simp, .inl ⟨_, _, rfl, run_takeDeferred hK, ?_⟩⟩
    exact ⟨_, results_tmp rfl _ _ _, v, rfl, ownsRow_putObj hrow _ hK rfl, hnil, hB.trans (belowK_b (w := w) (Nat.le_refl _) W D _ _ (by simp at hD; omega) hK rfl rfl)⟩
  case stop =>
    rintro D c pre W _ _ h _
    exact h.elim
set_option maxHeartbeats 1000000 in
theorem collect_in (F : Fence) (n : Nat) (h56 : F.fn 37) (h86 : F.fn 69) (h58 : F.fn 39) (hro : F.round = none) (hn : 4 ≤ n) (Bs : Nat) (q : Option Addr) (len cap : Nat) (L : List (List UInt8)) (hl : L.length = len) (hreach : len ≤ 1000000) (w : World) (hBs : Bs < w.heap.size)
    (hc : w.cell? ⟨Bs, 0, none⟩ = some (.slice q len cap)) (hI : NmA w.heap.size w q L) :
    CallsIn F n Tryz.prog 37 #[.func (.func 39) #[] #[.pointer (some ⟨Bs, 0, none⟩)]] w fun e W' => ∃ v, e = .returned v ∧ W'.ownsRow w.heap.size 9 1 v L.length (L.map sV) ∧ (v = .slice none 0 0 ↔ L = []) ∧ Below w.heap.size w W' := by
  have h1 : 1 ≤ n := by omega
  refine callsIn_of_wp Tryz.func37 rfl h56 ?_ hro
  simp only [Tryz.ntmps37, List.size_toArray, List.length_cons, List.length_nil, Nat.reduceAdd, Nat.reduceSub, Array.replicate_succ, Array.replicate_zero, List.push_toArray, List.append_toArray, List.nil_append, List.cons_append]
  gi_wp2_with (gi_at_call 69; refine (seq_in F (n - 1) h86 h58 hro (by omega) Bs q len cap L hl hreach _ hBs hc hI).mono ?_; rintro e w' ⟨v, rfl, h⟩)
  go_ret
  exact ⟨v, rfl, h⟩
end Go.Proofs.YtcgaekaollhmpaaGreat

namespace Go.Proofs.YtcgaekaollhmpaaGreat
open Go.RowKit Go.Maps Go.Sort Go.Shelf

def leB (x y : List UInt8) : Bool := decide (x ≤ y)
theorem bb_lt : ∀ {a b : List UInt8}, bytesBefore a b = true → a < b
  | [], [], h => by simp [bytesBefore] at h
  | [], _ :: _, _ => List.nil_lt_cons _ _
  | _ :: _, [], h => by simp [bytesBefore] at h
  | x :: xs, y :: ys, h => by
    simp only [bytesBefore, Bool.or_eq_true, decide_eq_true_eq, Bool.and_eq_true, beq_iff_eq] at h
    rw [List.cons_lt_cons_iff]
    rcases h with h | ⟨h1, h2⟩
    · exact .inl h
    · exact .inr ⟨h1, bb_lt h2⟩
theorem asc_sorted (ss : List (List UInt8)) : Asc (ss.mergeSort fun x y => decide (x ≤ y)) := by
  have tr : ∀ a b c : List UInt8, leB a b = true → leB b c = true → leB a c = true := fun a b c h1 h2 => by simp only [leB, decide_eq_true_eq] at *; exact List.le_trans h1 h2
  have tot : ∀ a b : List UInt8, (leB a b || leB b a) = true := fun a b => by simp only [leB, Bool.or_eq_true, decide_eq_true_eq]; exact List.le_total a b
  refine List.Pairwise.imp (fun {a b} hab => ?_) (List.pairwise_mergeSort tr tot ss)
  cases q : Op.bytesLess b a with
  | false => rfl
  | true =>
    rw [less_before] at q
    have h1 := bb_lt q
    simp only [leB, decide_eq_true_eq] at hab
    exact absurd h1 (List.not_lt.2 hab)
theorem map_flat (L : List (List UInt8)) : L.map encStr = L.flatMap sC := by
  induction L with
  | nil => rfl
  | cons a r ih => rw [List.map_cons, List.flatMap_cons, ih]; rfl
set_option maxHeartbeats 1000000 in
theorem sorted_any (w : World) (Bs : Nat) (q : Option Addr) (len cap : Nat) (L : List (List UInt8)) (hl : L.length = len) (hreach : len ≤ 1000000) (hBs : Bs < w.heap.size) (hc : w.cell? ⟨Bs, 0, none⟩ = some (.slice q len cap)) (hI : NmA w.heap.size w q L) :
    Calls Tryz.prog 19 #[.func (.func 39) #[] #[.pointer (some ⟨Bs, 0, none⟩)]] w fun e w' => ∃ p c', e = .returned (.slice p len c') ∧ Hid (∃ S : List (List UInt8), S.Perm L ∧ Asc S ∧ SR w.heap.size w' (.slice p len c') S ∧ Below w.heap.size w w') := by
  have H56 : Hid (Calls Tryz.prog 37 #[.func (.func 39) #[] #[.pointer (some ⟨Bs, 0, none⟩)]] w fun e W' => ∃ v, e = .returned v ∧ W'.ownsRow w.heap.size 9 1 v L.length (L.map sV) ∧ (v = .slice none 0 0 ↔ L = []) ∧ Below w.heap.size w W') := callsIn_wide.1 (collect_in Fence.wide 5 trivial trivial trivial rfl (by omega) Bs q len cap L hl hreach w hBs hc hI)
  have HL : Hid (L.length = len) := hl
  clear hc hI hl
  go_enter Tryz.func19, Tryz.ntmps19
  go_upto_region 2 with (go_at_call 37; refine H56.out.mono ?_; rintro e W ⟨v, rfl, hrow, hnil, hb⟩)
  clear H56
  have hrow' : W.ownsRow w.heap.size 9 1 v L.length (L.map encStr) := hrow
  rcases hrow'.2 with ⟨rfl, hz⟩ | ⟨gb, cap', cur, rfl, hbase, hgb, r1, r2, r3, r4⟩
  · have hss : L = [] := List.eq_nil_of_length_eq_zero hz
    subst hss
    obtain rfl : 0 = len := HL.out
    go_wp2_with (go_at_call 38; refine (AnyM.slices_Sort_string_none Tryz.sort57 none 0 W).mono ?_; rintro e w' ⟨rfl, rfl⟩)
    go_ret
    exact ⟨none, 0, rfl, [], List.Perm.refl _, List.Pairwise.nil, GRow.nil _ _ _ _ _, hb⟩
  · have hH : Holds encStr W gb 0 L.toArray := holds_of_block hgb (by simpa using r4)
    have hgl : gb < W.heap.size := (Array.getElem?_eq_some_iff.1 hgb).1
    have cS : Hid (Calls Tryz.prog 38 #[.slice (some ⟨gb, 0, none⟩) L.length cap'] W fun e w' => e = .returned (.tuple #[]) ∧ Hid (∃ S : List (List UInt8), S.Perm L ∧ Asc S ∧ SR w.heap.size w' (.slice (some ⟨gb, 0, none⟩) L.length cap') S ∧ Below w.heap.size w w')) := by
      refine (AnyM.slices_Sort_string Tryz.sort57 gb 0 cap' L W hH hgl (by have := HL.out; omega)).mono ?_
      rintro e w' ⟨rfl, nn, os, rfl⟩
      refine ⟨rfl, L.mergeSort fun x y => decide (x ≤ y), List.mergeSort_perm _ _, asc_sorted L, ?_, hb.grown (grownBy_sorted _) hb.size (fun j hj => by cases hj; exact hbase)⟩
      have h1 := ownsRow_sorted (n := nn) (os := os) (ss := L) (ts := L.mergeSort fun x y => decide (x ≤ y)) (by simp) hbase hgb r1 r2 r3
      unfold SR GRow
      rw [← map_flat, List.length_mergeSort]
      exact h1
    rw [HL.out] at cS
    rw [HL.out]
    clear hrow hrow' r1 r2 r3 r4 hH hgl hnil hgb
    go_wp2_with (go_at_call 38; refine cS.out.mono ?_; rintro e w' ⟨rfl, h⟩)
    go_ret
    exact ⟨_, _, rfl, h.out⟩
theorem keep_perm {L N : List (List UInt8)} (h : L.Perm N) (S : List Tn) : S.filter (keep L) = S.filter (keep N) := by
  refine List.filter_congr fun x _ => ?_
  unfold keep nask
  rw [Bool.not_not, Bool.not_not]
  exact decide_eq_decide.2 h.mem_iff
set_option maxHeartbeats 1000000 in
set_option maxRecDepth 100000 in
theorem asked_any (w : World) (g n c : Nat) (S : List Tn) (q : Option Addr) (len cap : Nat) (N : List (List UInt8)) (hr : Tr w g S) (hn : n = S.length) (n1 : n ≤ 1000000) (hnc : n ≤ c) (hc : c ≤ 9223372036854775807) (hg : g < w.heap.size) (hN : N.length = len) (l1 : len ≤ 1000000) (hq : NmA w.heap.size w q N) :
    Calls Tryz.prog 10 #[.slice (some ⟨g, 0, none⟩) n c, .slice q len cap] w fun e w' => ∃ m : Nat, e = .returned (.slice (some ⟨g, 0, none⟩) m c) ∧ Hid (m = (S.filter (keep N)).length ∧ Tr w' g (S.filter (keep N)) ∧ Kp (· = g) w w') := by
  have H36 : Hid (Calls Tryz.prog 20 #[.slice q len cap] w fun e w' => e = .returned (.func (.func 39) #[] #[.pointer (some ⟨w.heap.size, 0, none⟩)]) ∧ w' = w.alloc (.cells #[.slice q len cap] 24)) := callsIn_wide.1 (values_in Fence.wide 5 trivial rfl q len cap w)
  have b0 : Below w.heap.size w (w.alloc (.cells #[.slice q len cap] 24)) := (Below.refl _ w).alloc (Nat.le_refl _) _
  have H35 : Hid (Calls Tryz.prog 19 #[.func (.func 39) #[] #[.pointer (some ⟨w.heap.size, 0, none⟩)]] (w.alloc (.cells #[.slice q len cap] 24)) fun e w' => ∃ p c', e = .returned (.slice p len c') ∧ Hid (∃ L : List (List UInt8), L.Perm N ∧ Asc L ∧ SR w.heap.size w' (.slice p len c') L ∧ Below w.heap.size w w')) := by
    refine (sorted_any (w.alloc (.cells #[.slice q len cap] 24)) w.heap.size q len cap N hN l1 (by simp) (Lib.cell_of_heap new0 0) (fun j s hs => ?_)).mono ?_
    · obtain ⟨b, o, e, hb, h⟩ := (hq.below b0) j s hs
      exact ⟨b, o, e, by simp; omega, h⟩
    · rintro e w' ⟨p, c', rfl, h⟩
      obtain ⟨L, h1, h2, h3, h4⟩ := h.out
      refine ⟨p, c', rfl, L, h1, h2, ⟨h3.1, ?_⟩, b0.trans (h4.mono b0.size)⟩
      rcases h3.2 with q | ⟨g, cap, cur, e1, e2, e3⟩
      · exact .inl q
      · exact .inr ⟨g, cap, cur, e1, by simp at e2; omega, e3⟩
  have HR : Hid (Tr w g S ∧ n = S.length ∧ N.length = len) := ⟨hr, hn, hN⟩
  clear hr hn hN hq b0
  go_enter Tryz.func10, Tryz.ntmps10
  go_upto_region 2 with (first | (go_at_call 20; refine H36.out.mono ?_; rintro e w1 ⟨rfl, rfl⟩) | (go_at_call 19; refine H35.out.mono ?_; rintro e w2 ⟨p, c', rfl, h2⟩))
  clear H36 H35
  obtain ⟨L, h1, h3, h4, h5⟩ := h2.out
  have hll := h4.len
  have ba : Below w.heap.size w (w2.alloc (.cells #[.slice p len c'] 24)) := h5.alloc h5.size _
  have HK : Hid (∀ W, Kp (· = g) (w2.alloc (.cells #[.slice p len c'] 24)) W → Ask W w2.heap.size L) := fun W k => by
    have hgl : g < w2.heap.size := Nat.lt_of_lt_of_le hg h5.size
    have kc : ∀ b o v, b ≠ g → (w2.alloc (.cells #[.slice p len c'] 24)).cell? ⟨b, o, none⟩ = some v → W.cell? ⟨b, o, none⟩ = some v := fun b o v hb h => by
      have hl : b < (w2.alloc (.cells #[.slice p len c'] 24)).heap.size := block_lt_of_cell h
      unfold World.cell? at *
      rw [k.block b hl hb]
      exact h
    refine ⟨h3, by have := HR.out.2.2; have := h1.length_eq; omega, ⟨p, c', ?_, fun i s hs => ?_⟩, ?_⟩
    · rw [← hll]
      exact kc _ _ _ (by omega) (Lib.cell_of_heap new0 0)
    · obtain ⟨gn, e, hcell⟩ := SR.get h4 hs
      refine ⟨gn, 0, e, ?_⟩
      rw [Nat.zero_add]
      have h6 : w.heap.size ≤ gn := by subst e; exact h4.ge rfl
      have h7 : gn < w2.heap.size := block_lt_of_cell hcell
      exact kc _ _ _ (by omega) (cell_kept ((Below.refl _ w2).alloc (Nat.le_refl _) _) hcell)
    · have := k.size
      simp at this
      omega
  have H37 : Hid (Calls Tryz.prog 21 #[.slice (some ⟨g, 0, none⟩) n c, .func (.func 22) #[] #[.pointer (some ⟨w2.heap.size, 0, none⟩)]] (w2.alloc (.cells #[.slice p len c'] 24)) fun e w' => ∃ m : Nat, e = .returned (.slice (some ⟨g, 0, none⟩) m c) ∧ Hid (m = (S.filter (keep N)).length ∧ Tr w' g (S.filter (keep N)) ∧ Kp (· = g) w w')) := by
    refine (del_any HK (HR.out.1.keep (ba.block g hg)) HR.out.2.1 n1 hnc hc (by have := h5.size; simp; omega)).mono ?_
    rintro e w' ⟨m, rfl, h⟩
    obtain ⟨a1, a2, a3⟩ := h.out
    rw [keep_perm h1] at a1 a2
    exact ⟨m, rfl, a1, a2, Kp.trans (S := (· = g)) (Kp.of_below ba) a3 fun _ _ e => e⟩
  clear HK h1 h3 h4 h5 hll ba h2
  go_wp2_with (go_at_call 21; refine H37.out.mono ?_; rintro e w3 ⟨m, rfl, h3⟩)
  go_ret
  exact ⟨m, rfl, h3⟩
end Go.Proofs.YtcgaekaollhmpaaGreat

namespace Go.Proofs.YtcgaekaollhmpaaGreat
open Go.RowKit Go.Maps

/-- what First answers, told by the order -/
def FR (err : Nat) (R : List Tn) (N : List (List UInt8)) (er : Nat) (nm : List UInt8) : Prop :=
  (err ≠ 0 ∧ er = err ∧ nm = []) ∨ (err = 0 ∧ ((R.filter (keep N) = [] ∧ er = 3 ∧ nm = []) ∨ ∃ t r, R.filter (keep N) = t :: r ∧ er = 0 ∧ nm = t.nm))
def FirP (w : World) (err : Nat) (R : List Tn) (N : List (List UInt8)) (e : Ending) (w' : World) : Prop :=
  ∃ nm er, e = .returned (.tuple #[.string ⟨⟨nm⟩⟩, .int .i64 (er : Nat)]) ∧ Hid (FR err R N er nm ∧ Below w.heap.size w w')
theorem min_tb {S : List Tn} {x : Nat} {k : K} (hs : S.Pairwise fun a b => bytesBefore a.nm b.nm = true) (hm : (kC S S.length).min x k) : x < S.length ∧ k = kyS S x ∧ ∀ t ∈ S, t = tA S x ∨ tb (tA S x) t := by
  rw [← dC_nil] at hm
  obtain ⟨h1, h2, h3⟩ := (ixp_nil S).pop hm
  refine ⟨h2, h3, fun t ht => ?_⟩
  obtain ⟨y, hy, rfl⟩ := List.getElem_of_mem ht
  have ey : tA S y = S[y] := tA_at (List.getElem?_eq_getElem hy)
  rw [← ey]
  by_cases q : y = x
  · exact .inl (by rw [q])
  · refine .inr ?_
    have hel := h1.ot x (by simp) y hy (by simpa using q)
    rcases hel with (e | ⟨q1, q2⟩) | ⟨e, q2⟩
    · exact .inl e
    · refine .inr ⟨q1, ?_⟩
      have e' : x < y := by unfold kyS at q2; simpa using q2
      have := List.pairwise_iff_getElem.1 hs x y h2 hy e'
      rwa [← tA_at (List.getElem?_eq_getElem h2), ← ey] at this
    · have e2 : (x : Int) = (y : Int) := e.2
      omega
theorem min_head {F G : List Tn} {t0 : Tn} (hp : F.Perm G) (hg : G.Pairwise tb) (h0 : t0 ∈ F) (hm : ∀ t ∈ F, t = t0 ∨ tb t0 t) : ∃ r, G = t0 :: r := by
  cases G with
  | nil => exact absurd (hp.mem_iff.1 h0) (by simp)
  | cons t r =>
    have ht : t ∈ F := hp.mem_iff.2 (List.mem_cons_self ..)
    rcases hm t ht with e | e
    · exact ⟨r, by rw [e]⟩
    · rcases List.mem_cons.1 (hp.mem_iff.1 h0) with q | q
      · exact ⟨r, by rw [q]⟩
      · exact (tb_asym e ((List.pairwise_cons.1 hg).1 t0 q)).elim
theorem wg_ord {all : Vs.V} {L : List U} {e1 e2 : Nat} {S R : List Tn} (h : WgR all L e1 S) (k : OrdR all L e2 R) : e1 = e2 ∧ (e1 = 0 → S.Perm R ∧ R.Pairwise tb ∧ (S.Pairwise fun a b => bytesBefore a.nm b.nm = true) ∧ fstE all L = 0 ∧ S.Perm (L.map (ten all))) := by
  rcases h with ⟨a1, a2, a3⟩ | ⟨a1, a2, a3, a4⟩ | ⟨a1, a2, a3, a4, a5⟩ <;> rcases k with ⟨b1, b2, b3⟩ | ⟨b1, b2, b3, b4⟩ | ⟨b1, b2, b3, b4, b5⟩
  · exact ⟨a1.trans b1.symm, fun e => absurd e a2⟩
  · exact absurd (a1.trans b1) a2
  · exact absurd (a1.trans b1) a2
  · exact absurd (b1.trans a1) b2
  · exact ⟨a3.trans b3.symm, fun e => by rw [a3] at e; cases e⟩
  · exact absurd b2 a2
  · exact absurd (b1.trans a1) b2
  · exact absurd a2 b2
  · exact ⟨a3.trans b3.symm, fun _ => ⟨a4.trans b4.symm, b5, a5, a1, a4⟩⟩
set_option maxHeartbeats 4000000 in
set_option maxRecDepth 100000 in
theorem first_any (all : Vs.V) (q : Option Addr) (n c : Nat) (L : List U) (qn : Option Addr) (ln cn : Nat) (N : List (List UInt8)) (err : Nat) (R : List Tn) (w : World) (hn : n = L.length) (hr : UArg w q L) (hm : n ≤ 1000) (hN : N.length = ln) (l1 : ln ≤ 1000000) (hq : NmA w.heap.size w qn N) (hO : OrdR all L err R) :
    Calls Tryz.prog 5 #[.agg #[.int .i64 all.a, .int .i64 all.b, .int .i64 all.c, .int .i64 all.d], .slice qn ln cn, .slice q n c] w (FirP w err R N) := by
  have B0 : Hid (Below w.heap.size w (w.alloc (.cells #[.int .i64 all.a, .int .i64 all.b, .int .i64 all.c, .int .i64 all.d] 23))) := (Below.refl _ w).alloc (Nat.le_refl _) _
  obtain ⟨a0, a1, a2, a3⟩ := c4b (new0 (w := w) (o := .cells #[.int .i64 all.a, .int .i64 all.b, .int .i64 all.c, .int .i64 all.d] 23))
  have H15 := weighed_any all q n c L _ hn (hr.below B0.out) hm
  have HN : Hid (∀ u ∈ L, u.nm.length ≤ 281474976710656) := hr.s
  have HL : Hid (n = L.length ∧ N.length = ln ∧ NmA w.heap.size w qn N ∧ OrdR all L err R) := ⟨hn, hN, hq, hO⟩
  obtain ⟨l0, l1', l2, l3⟩ := all
  simp only [] at H15 a0 a1 a2 a3 B0
  have HW : Hid (Calls Tryz.prog 9 #[.agg #[.int .i64 l0, .int .i64 l1', .int .i64 l2, .int .i64 l3], .slice q n c] (w.alloc (.cells #[.int .i64 l0, .int .i64 l1', .int .i64 l2, .int .i64 l3] 23)) (WgP (w.alloc (.cells #[.int .i64 l0, .int .i64 l1', .int .i64 l2, .int .i64 l3] 23)) ⟨l0, l1', l2, l3⟩ L)) := H15
  clear hr hn hN hq hO H15
  go_enter Tryz.func5, Tryz.ntmps5
  go_upto_region 1 with fail
  obtain ⟨bw, hbw⟩ : ∃ bw, bw = w.heap.size := ⟨_, rfl⟩
  rw [← hbw] at a0 a1 a2 a3 ⊢
  clear hbw
  generalize w.alloc (.cells #[.int .i64 l0, .int .i64 l1', .int .i64 l2, .int .i64 l3] 23) = W1 at *
  go_upto_region 2 with (go_at_call 9; refine HW.out.mono ?_; rintro e W2 ⟨p, m, c1, er1, S, rfl, hmS0, hW⟩; have hmS : Hid (m = S.length) := hmS0; clear hmS0)
  obtain ⟨e12, hperm⟩ := wg_ord hW.out.1 HL.out.2.2.2
  subst e12
  have HB2 : Hid (Below w.heap.size w W2) := B0.out.trans (hW.out.2.2.mono B0.out.size)
  clear HW a0 a1 a2 a3
  by_cases he : er1 = 0
  · subst he
    obtain ⟨g, rfl, hg1, hg2, hg3, hcap1, hcap2⟩ := hW.out.2.1 rfl
    obtain ⟨s1, s2, s3, s4, s5⟩ := hperm rfl
    have hm1 : m ≤ 1000 := by have h1 := s5.length_eq; rw [List.length_map] at h1; have := HL.out.1; have := hmS.out; omega
    have hgw : w.heap.size ≤ g := Nat.le_trans B0.out.size hg1
    have H22 : Hid (Calls Tryz.prog 10 #[.slice (some ⟨g, 0, none⟩) m c1, .slice qn ln cn] W2 fun e w' => ∃ m' : Nat, e = .returned (.slice (some ⟨g, 0, none⟩) m' c1) ∧ Hid (m' = (S.filter (keep N)).length ∧ Tr w' g (S.filter (keep N)) ∧ Kp (· = g) W2 w')) := asked_any W2 g m c1 S qn ln cn N hg3 hmS.out (by omega) hcap1 (by unfold maxLen at hcap2; omega) hg2 HL.out.2.1 l1 (fun j s hs => by
      obtain ⟨b, o, e, hb, hc⟩ := (HL.out.2.2.1.below HB2.out) j s hs
      exact ⟨b, o, e, Nat.lt_of_lt_of_le hb HB2.out.size, hc⟩)
    have HF : Hid ((S.filter (keep N)).Perm (R.filter (keep N)) ∧ (R.filter (keep N)).Pairwise tb ∧ ((S.filter (keep N)).Pairwise fun a b => bytesBefore a.nm b.nm = true) ∧ (∀ t ∈ S.filter (keep N), Tok t) ∧ (∀ t ∈ S.filter (keep N), t.nm.length ≤ 281474976710656) ∧ (S.filter (keep N)).length ≤ 1000) := by
      refine ⟨s1.filter _, s2.filter _, s3.filter _, fun t ht => ?_, fun t ht => ?_, ?_⟩
      · obtain ⟨u, hu, rfl⟩ := List.mem_map.1 (s5.mem_iff.1 (List.mem_filter.1 ht).1)
        exact ten_ok (fstE_zero.1 s4 u hu)
      · obtain ⟨u, hu, rfl⟩ := List.mem_map.1 (s5.mem_iff.1 (List.mem_filter.1 ht).1)
        exact HN.out u hu
      · have := List.length_filter_le (keep N) S
        have := hmS.out
        omega
    clear s1 s2 s3 s4 s5 hperm hg3 hcap1 hcap2 hW
    go_upto_region 5 with (go_at_call 10; refine H22.out.mono ?_; rintro e W3 ⟨m', rfl, h3⟩)
    have H3 : Hid (m' = (S.filter (keep N)).length ∧ Tr W3 g (S.filter (keep N)) ∧ Below w.heap.size w W3 ∧ g < W3.heap.size) := ⟨h3.out.1, h3.out.2.1, HB2.out.trans (h3.out.2.2.below HB2.out.size fun j hj e => by omega), Nat.lt_of_lt_of_le hg2 h3.out.2.2.size⟩
    clear H22 h3 HB2 hmS
    generalize S.filter (keep N) = F at *
    have m1' : m' ≤ 1000 := by have := H3.out.1; have := HF.out.2.2.2.2.2; omega
    have H16 : Hid (Calls Tryz.prog 11 #[.slice (some ⟨g, 0, none⟩) m' c1] W3 fun e w' => ∃ lb, e = .returned (.pointer (some ⟨lb, 0, none⟩)) ∧ Hid (Lin w w' lb (kC F m') m' (· = g) ∧ Below W3.heap.size W3 w')) := lined_any w W3 g m' c1 F (· = g) H3.out.1 H3.out.2.1 H3.out.2.2.1 (fun j hj => by rw [hj]; exact H3.out.2.2.2) m1' HF.out.2.2.2.1
    by_cases h0 : m' = 0
    · subst h0
      have hF0 : F = [] := List.eq_nil_of_length_eq_zero (by have := H3.out.1; omega)
      have HZ : Hid (R.filter (keep N) = []) := by
        have := HF.out.1
        rw [hF0] at this
        exact List.Perm.eq_nil this.symm
      go_upto_region 6 with (first | (go_at_call 11; refine H16.out.mono ?_; rintro e W4 ⟨lb, rfl, h4⟩) | (go_at_call 12; refine (next_no h4.out.1).mono ?_; rintro e W5 ⟨rfl, h5⟩))
      have B5 : Hid (Below w.heap.size w W5) := H3.out.2.2.1.trans ((h4.out.2.trans (h5.out.mono h4.out.2.size)).mono H3.out.2.2.1.size)
      clear H16 h4 h5 H3
      go_wp2_with fail
      go_ret2
      exact ⟨[], 3, rfl, .inr ⟨rfl, .inl ⟨HZ.out, rfl, rfl⟩⟩, B5.out⟩
    · obtain ⟨x0, hx0⟩ : ∃ x0 : Nat, True := ⟨0, trivial⟩
      clear x0 hx0
      have e0 : ¬ ((m' : Nat) : Int) = 0 := by omega
      go_upto_region 6 with (first | (go_at_call 11; refine H16.out.mono ?_; rintro e W4 ⟨lb, rfl, h4⟩; obtain ⟨x, k, hmin, hcall⟩ := next_any h4.out.1 h0 (by omega); clear H16; rw [show kC F m' = kC F F.length by rw [← H3.out.1]] at hmin; obtain ⟨hx, rfl, hall⟩ := min_tb HF.out.2.2.1 hmin; have H17 : Hid (Calls Tryz.prog 12 #[.pointer (some ⟨lb, 0, none⟩)] W4 fun e w' => e = .returned (.tuple #[.int .i64 (x : Int), .int .i64 0]) ∧ Hid (Tr w' g F ∧ Below w.heap.size w w')) := hcall.mono (by { rintro e w' ⟨rfl, h⟩; exact ⟨rfl, (H3.out.2.1.keep (h4.out.2.block g H3.out.2.2.2)).keep (h.out.2 g rfl), h.out.1.below⟩ })) | (go_at_call 12; refine H17.out.mono ?_; rintro e W5 ⟨rfl, h5⟩))
      have hxm : x < m' := by have := H3.out.1; omega
      have hxm' : (x : Int) < (m' : Int) := by omega
      have hxS := tA_lt hx
      have HX : Hid (∃ r, R.filter (keep N) = tA F x :: r) := min_head HF.out.1 HF.out.2.1 (List.mem_of_getElem? hxS) hall
      have c0 := (h5.out.1.at hxS).1
      have H18 : Hid (∀ W, Calls Tryz.prog 13 #[.string ⟨⟨(tA F x).nm⟩⟩] W fun e w' => e = .returned (.string ⟨⟨(tA F x).nm⟩⟩) ∧ Hid (Below W.heap.size W w')) := fun W => clone_any _ W (HF.out.2.2.2.2.1 _ (List.mem_of_getElem? hxS))
      have B5 : Hid (Below w.heap.size w W5) := h5.out.2
      clear h4 hmin hcall hall H17 h5 hx hxS H3
      generalize tA F x = t0 at *
      obtain ⟨t1, t2, t3⟩ := t0
      simp only [] at c0 H18
      go_wp2_with (go_at_call 13; refine (H18.out _).mono ?_; rintro e W6 ⟨rfl, h6⟩)
      go_ret2
      obtain ⟨r, hr⟩ := HX.out
      exact ⟨t1, 0, rfl, .inr ⟨rfl, .inr ⟨_, r, hr, rfl, rfl⟩⟩, B5.out.trans (h6.out.mono B5.out.size)⟩
  · have e1 : ¬ ((er1 : Nat) : Int) = 0 := by omega
    have e2 : (((er1 : Nat) : Int) == 0) = false := by rw [beq_eq_false_iff_ne]; exact e1
    clear hperm hW hmS
    go_wp2_with fail
    go_ret2
    exact ⟨[], er1, rfl, .inl ⟨he, rfl, rfl⟩, HB2.out⟩
end Go.Proofs.YtcgaekaollhmpaaGreat
