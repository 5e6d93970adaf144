/-
  The document's queue on any list: find, before, Get, Head, Remove. The document's queue on any list: Get, Head, Remove. The document's queue on any list: Remove. The document's queue on any list: Push. The document's queue on any list: Push, walked.
-/
import Derived.Test.YthlbeofonbbbdaaRc
import Derived.Test.YthlbeofonbbbdaaOb
import Derived.Laws.Cover1
import Derived.Lib.QuietBelow
import Derived.BigQuiet
namespace Go.Proofs.Ythlbeofonbbbdaa
open Go.RowKit Go.Maps Go.WideMaps

/-- the document's queue in memory; T: its own blocks -/
structure RQ (w : World) (T : Nat → Prop) (rb : Nat) (q : Option Addr) (n c : Nat) (D : List J) : Prop where
  h : w.heap[rb]? = some (.cells #[.slice q n c] 29 (0, 0))
  r : RRow 0 w (.slice q n c) D
  t : T rb
  o : ∀ g, (Value.slice q n c).ownBlock = some g → T g
  l : ∀ k, T k → k < w.heap.size
def Rfq (w : World) (T : Nat → Prop) (rb : Nat) (D : List J) : Prop := ∃ q n c, RQ w T rb q n c D
section
variable {w w' : World} {T : Nat → Prop} {rb n c : Nat} {q : Option Addr} {D : List J}
theorem RQ.keep (h : RQ w T rb q n c D) (e : ∀ k, T k → w'.heap[k]? = w.heap[k]?) (hs : w.heap.size ≤ w'.heap.size) : RQ w' T rb q n c D :=
  ⟨(e rb h.t).trans h.h, h.r.keep fun g hg => e g (h.o g hg), h.t, h.o, fun k hk => Nat.lt_of_lt_of_le (h.l k hk) hs⟩
theorem RQ.below (h : RQ w T rb q n c D) (b : Below w.heap.size w w') : RQ w' T rb q n c D := h.keep (fun k hk => b.block k (h.l k hk)) b.size
theorem RQ.len (h : RQ w T rb q n c D) : n = D.length := h.r.len
/-- where a job stands -/
def ix (j : Int) (D : List J) : Int := match D.findIdx? (fun a => decide (a.job = j)) with | some k => k | none => -1
theorem ix_some {j : Int} {k : Nat} {a : J} (h : D[k]? = some a) (ha : a.job = j) (hf : ∀ i b, i < k → D[i]? = some b → b.job ≠ j) : ix j D = k := by
  obtain ⟨hk, rfl⟩ := List.getElem?_eq_some_iff.1 h
  unfold ix
  have : D.findIdx? (fun a => decide (a.job = j)) = some k := by
    rw [List.findIdx?_eq_some_iff_getElem]
    refine ⟨hk, by simpa using ha, fun i hi => by simpa using hf i _ hi (List.getElem?_eq_getElem _)⟩
  rw [this]
theorem ix_none {j : Int} (h : ∀ a ∈ D, a.job ≠ j) : ix j D = -1 := by
  unfold ix
  have : D.findIdx? (fun a => decide (a.job = j)) = none := by
    rw [List.findIdx?_eq_none_iff]
    intro a ha
    simpa using h a ha
  rw [this]
set_option maxHeartbeats 1000000 in
theorem rfind_any (h : RQ w T rb q n c D) (hn : n ≤ 1000000) (j : Int) : Calls Try.prog 37 #[.pointer (some ⟨rb, 0, none⟩), .int .i64 j] w fun e w' => e = .returned (.int .i64 (ix j D)) ∧ w' = w := by
  have hnl : Hid (n = D.length) := h.len
  have e0 := c1 h.h
  have hlt := h.l rb h.t
  have HR : Hid (RRow 0 w (.slice q n c) D) := h.r
  clear h
  go_enter Try.func37, Try.ntmps37
  go_wp2_with fail
  go_loopw [5] (fun x wr => ∃ k : Nat, x = .int .i64 k ∧ k ≤ n ∧ wr = w ∧ Hid (∀ i b, i < k → D[i]? = some b → b.job ≠ j)) (fun x _ => n - (intOf x).toNat)
  case atStart => exact ⟨0, rfl, Nat.zero_le _, rfl, fun i b hi => by omega⟩
  case round =>
    obtain ⟨k, rfl, hk, rfl, HK⟩ := hrel
    by_cases hkn : k < n
    · have k1 : (k : Int) < (n : Int) := by omega
      have k2 : decide ((k : Int) < (n : Int)) = true := decide_eq_true k1
      obtain ⟨a, ha⟩ : ∃ a, D[k]? = some a := ⟨_, List.getElem?_eq_getElem (by have := hnl.out; omega)⟩
      obtain ⟨g, rfl, hg⟩ := HR.out.at wC_len ha
      have y0 := hg 0 _ rfl
      simp only [Nat.add_zero] at y0
      by_cases hj : a.job = j
      · have HE : Hid (ix j D = k) := ix_some ha hj HK.out
        obtain ⟨aj, at', ap⟩ := a
        simp only [] at hj y0
        subst hj
        clear HK HR ha hg
        go_wp2_with fail
        go_ret
        exact ⟨by rw [HE.out]; rfl, rfl⟩
      · have e1 : (a.job == j) = false := by simpa using hj
        have HN : Hid (∀ i b, i < k + 1 → D[i]? = some b → b.job ≠ j) := fun i b hi hb => by
          by_cases q : i < k
          · exact HK.out i b q hb
          · obtain rfl : i = k := by omega
            rw [ha] at hb
            cases hb
            exact hj
        obtain ⟨aj, at', ap⟩ := a
        simp only [] at e1 y0
        clear HK HR ha hg hj
        go_wp2_with fail
        exact ⟨⟨k + 1, by simp, hkn, trivial, HN.out⟩, by simp [intOf]; omega⟩
    · have k1 : ¬ (k : Int) < (n : Int) := by omega
      have k2 : decide ((k : Int) < (n : Int)) = false := decide_eq_false k1
      have HE : Hid (ix j D = -1) := ix_none fun a ha => by
        obtain ⟨i, hi, rfl⟩ := List.getElem_of_mem ha
        exact HK.out i _ (by have := hnl.out; omega) (List.getElem?_eq_getElem _)
      clear HK HR
      go_wp2_with fail
      go_ret
      exact ⟨by rw [HE.out]; rfl, rfl⟩
/-- what is found -/
theorem fJ_ix (j : Int) (D : List J) : (∃ (k : Nat) (a : J), ix j D = (k : Int) ∧ D[k]? = some a ∧ fJ j D = some a ∧ a.job = j ∧ ∀ i b, i < k → D[i]? = some b → b.job ≠ j) ∨ (ix j D = -1 ∧ fJ j D = none) := by
  cases hf : D.findIdx? (fun a => decide (a.job = j)) with
  | none =>
    right
    rw [List.findIdx?_eq_none_iff] at hf
    have hn : ∀ a ∈ D, a.job ≠ j := fun a ha => by simpa using hf a ha
    exact ⟨ix_none hn, List.find?_eq_none.2 fun a ha => by simpa using hn a ha⟩
  | some k =>
    left
    rw [List.findIdx?_eq_some_iff_getElem] at hf
    obtain ⟨hk, h1, h2⟩ := hf
    have h1' : D[k].job = j := by simpa using h1
    have h2' : ∀ i b, i < k → D[i]? = some b → b.job ≠ j := fun i b hi hb => by
      obtain ⟨hl, rfl⟩ := List.getElem?_eq_some_iff.1 hb
      simpa using h2 i hi
    refine ⟨k, D[k], ix_some (List.getElem?_eq_getElem hk) h1' h2', List.getElem?_eq_getElem hk, ?_, h1', h2'⟩
    unfold fJ
    rw [List.find?_eq_some_iff_getElem]
    exact ⟨by simpa using h1', k, hk, rfl, fun i hi => by simpa using h2' i _ hi (List.getElem?_eq_getElem _)⟩
set_option maxHeartbeats 1000000 in
theorem rbefore_any (a b : J) (w : World) : Calls Try.prog 38 #[.agg #[.int .i64 a.job, .string ⟨⟨a.tn⟩⟩, .int .i64 a.pr], .agg #[.int .i64 b.job, .string ⟨⟨b.tn⟩⟩, .int .i64 b.pr]] w fun e w' => e = .returned (.bool (bf a b)) ∧ Below w.heap.size w w' := by
  obtain ⟨aj, an, ap⟩ := a
  obtain ⟨bj, bn, bp⟩ := b
  simp only []
  go_enter Try.func38, Try.ntmps38
  by_cases h1 : an = bn
  · subst h1
    by_cases h2 : ap = bp
    · subst h2
      go_wp2_with fail
      go_ret
      refine ⟨ret_b ?_, by go_grown⟩
      unfold bf jl
      simp
    · have h2' : (ap == bp) = false := by simpa using h2
      go_wp2_with fail
      go_ret
      refine ⟨ret_b ?_, by go_grown⟩
      unfold bf jl
      simp [h2]
  · have h1' : (an == bn) = false := by simpa using h1
    have hl := less_before an bn
    go_wp2_with fail
    go_ret
    refine ⟨ret_b ?_, by go_grown⟩
    unfold bf
    rw [if_neg h1, ← hl]
end
end Go.Proofs.Ythlbeofonbbbdaa

namespace Go.Proofs.Ythlbeofonbbbdaa
open Go.RowKit Go.Maps Go.WideMaps
section
variable {w w' : World} {T : Nat → Prop} {rb n c : Nat} {q : Option Addr} {D : List J}
theorem rq_cells (h : RQ w T rb q n c D) {k : Nat} {a : J} (ha : D[k]? = some a) : ∃ g, q = some ⟨g, 0, none⟩ ∧ w.cell? ⟨g, k * 3, none⟩ = some (.int .i64 a.job) ∧ w.cell? ⟨g, k * 3 + 1, none⟩ = some (.string ⟨⟨a.tn⟩⟩) ∧ w.cell? ⟨g, k * 3 + 2, none⟩ = some (.int .i64 a.pr) := by
  obtain ⟨g, e, hg⟩ := h.r.at wC_len ha
  exact ⟨g, e, hg 0 _ rfl, hg 1 _ rfl, hg 2 _ rfl⟩
set_option maxHeartbeats 1000000 in
set_option maxRecDepth 100000 in
theorem rget_any (h : RQ w T rb q n c D) (hn : n ≤ 1000000) (j : Int) : Calls Try.prog 24 #[.pointer (some ⟨rb, 0, none⟩), .int .i64 j] w fun e w' => e = ansJ (getD D j) ∧ Below w.heap.size w w' := by
  obtain ⟨W1, hW1⟩ : ∃ W1, W1 = w.alloc (.cells #[.int .i64 0, .string ⟨#[]⟩, .int .i64 0] 56) := ⟨_, rfl⟩
  have B1 : Hid (Below w.heap.size w W1) := by subst hW1; exact (Below.refl _ w).alloc (Nat.le_refl _) _
  have N1 : Hid (W1.heap[w.heap.size]? = some (.cells #[.int .i64 0, .string ⟨#[]⟩, .int .i64 0] 56 (0, 0))) := by subst hW1; exact new0
  have h1 := h.below B1.out
  have H37 : Hid (Calls Try.prog 37 #[.pointer (some ⟨rb, 0, none⟩), .int .i64 j] W1 fun e w' => e = .returned (.int .i64 (ix j D)) ∧ w' = W1) := rfind_any h1 hn j
  have hnl := h.len
  rcases fJ_ix j D with ⟨k, a, e1, e2, e3, e4, -⟩ | ⟨e1, e2⟩
  · rw [e1] at H37
    have hk : k < n := by have := (List.getElem?_eq_some_iff.1 e2).1; omega
    have hans : getD D j = (a, 0) := by unfold getD; rw [e3]
    obtain ⟨g, rfl, y0, y1, y2⟩ := rq_cells h1 e2
    have x0 := c1 h1.h
    have hlt := h1.l rb h1.t
    obtain ⟨z0, z1, z2⟩ := c3 N1.out
    have f0 := fz N1.out 0
    have f1 := fz N1.out 1
    have f2 := fz N1.out 2
    have k1 : (k : Int) < (n : Int) := by omega
    have hwl := (Array.getElem?_eq_some_iff.1 N1.out).1
    rw [hans]
    obtain ⟨aj, at', ap⟩ := a
    simp only [] at y0 y1 y2
    clear h h1 e1 e2 e3 e4 hans hnl
    go_enter Try.func24, Try.ntmps24
    go_upto_region 1 with fail
    rw [← hW1]
    clear hW1
    obtain ⟨bw, hbw⟩ : ∃ bw, bw = w.heap.size := ⟨_, rfl⟩
    rw [← hbw] at N1 z0 z1 z2 f0 f1 f2 hwl ⊢
    have HBW : Hid (bw = w.heap.size) := hbw
    clear hbw
    go_wp2_with (go_at_call 37; refine H37.out.mono ?_; rintro e w2 ⟨rfl, h2⟩; obtain rfl := h2.symm)
    refine bodyPost_ret (v := .tuple #[.agg #[.int .i64 aj, .string ⟨⟨at'⟩⟩, .int .i64 ap], .int .i64 0]) (by rw [results_cell_tmp rfl]; go_simp) rfl ?_
    refine ⟨rfl, ?_⟩
    have hb : w.heap.size ≤ bw := Nat.le_of_eq HBW.out.symm
    exact ((B1.out.setCell hb _).setCell hb _).setCell hb _
  · rw [e1] at H37
    have hans : getD D j = (jz, 3) := by unfold getD; rw [e2]
    rw [hans]
    obtain ⟨z0, z1, z2⟩ := c3 N1.out
    have f0 := fz N1.out 0
    have f1 := fz N1.out 1
    have f2 := fz N1.out 2
    have hwl := (Array.getElem?_eq_some_iff.1 N1.out).1
    clear h h1 e1 e2 hans hnl
    go_enter Try.func24, Try.ntmps24
    go_upto_region 1 with fail
    rw [← hW1]
    clear hW1
    obtain ⟨bw, hbw⟩ : ∃ bw, bw = w.heap.size := ⟨_, rfl⟩
    rw [← hbw] at N1 z0 z1 z2 f0 f1 f2 hwl ⊢
    have HBW : Hid (bw = w.heap.size) := hbw
    clear hbw
    go_wp2_with (go_at_call 37; refine H37.out.mono ?_; rintro e w2 ⟨rfl, h2⟩; obtain rfl := h2.symm)
    refine bodyPost_ret (v := .tuple #[.agg #[.int .i64 0, .string ⟨#[]⟩, .int .i64 0], .int .i64 3]) (by rw [results_cell_tmp rfl]; go_simp) rfl ?_
    refine ⟨rfl, ?_⟩
    have hb : w.heap.size ≤ bw := Nat.le_of_eq HBW.out.symm
    exact ((B1.out.setCell hb _).setCell hb _).setCell hb _
set_option maxHeartbeats 1000000 in
set_option maxRecDepth 100000 in
theorem rhead_any (h : RQ w T rb q n c D) (hn : n ≤ 1000000) (t : List UInt8) : Calls Try.prog 25 #[.pointer (some ⟨rb, 0, none⟩), .string ⟨⟨t⟩⟩] w fun e w' => e = ansJ (headD D t) ∧ Below w.heap.size w w' := by
  obtain ⟨W1, hW1⟩ : ∃ W1, W1 = w.alloc (.cells #[.int .i64 0, .string ⟨#[]⟩, .int .i64 0] 56) := ⟨_, rfl⟩
  have B1 : Hid (Below w.heap.size w W1) := by subst hW1; exact (Below.refl _ w).alloc (Nat.le_refl _) _
  have N1 : Hid (W1.heap[w.heap.size]? = some (.cells #[.int .i64 0, .string ⟨#[]⟩, .int .i64 0] 56 (0, 0))) := by subst hW1; exact new0
  have h1 := h.below B1.out
  have hnl := h.len
  have H22 : Hid (Calls Try.prog 22 #[.pointer (some ⟨rb, 0, none⟩), .string ⟨⟨t⟩⟩] W1 fun e w' => ∃ p c', e = .returned (.slice p (ofT t D).length c') ∧ Hid (RRow W1.heap.size w' (.slice p (ofT t D).length c') (ofT t D) ∧ Below W1.heap.size W1 w')) := rlist_any W1 rb n c q D t h1.h h1.r (by show _ ≤ _; omega)
  obtain ⟨m, hm⟩ : ∃ m, m = (ofT t D).length := ⟨_, rfl⟩
  have hmn : m ≤ 1000000 := by have := List.length_filter_le (fun a : J => a.tn == t) D; rw [hm]; unfold ofT; omega
  rw [← hm] at H22
  have HM : Hid (m = (ofT t D).length) := hm
  clear h h1 hnl hm
  go_enter Try.func25, Try.ntmps25
  go_upto_region 1 with fail
  rw [← hW1]
  clear hW1
  obtain ⟨bw, hbw⟩ : ∃ bw, bw = w.heap.size := ⟨_, rfl⟩
  rw [← hbw] at N1 ⊢
  have HBW : Hid (bw = w.heap.size) := hbw
  clear hbw
  go_upto_region 2 with (go_at_call 22; refine H22.out.mono ?_; rintro e w2 ⟨p, c', rfl, h2⟩)
  have N2 := at_below h2.out.2 (Nat.le_refl _) N1.out
  obtain ⟨z0, z1, z2⟩ := c3 N2
  have f0 := fz N2 0
  have f1 := fz N2 1
  have f2 := fz N2 2
  have hwl := (Array.getElem?_eq_some_iff.1 N2).1
  have B2 : Hid (Below w.heap.size w w2 ∧ w.heap.size ≤ bw) := ⟨B1.out.trans (h2.out.2.mono B1.out.size), by have := HBW.out; omega⟩
  cases ho : ofT t D with
  | nil =>
    obtain rfl : m = 0 := by rw [HM.out, ho]; rfl
    have HANS : Hid (headD D t = (jz, 3)) := by unfold headD; rw [ho]; rfl
    clear N2 h2 H22 HM ho
    go_wp2_with fail
    refine bodyPost_ret (v := .tuple #[.agg #[.int .i64 0, .string ⟨#[]⟩, .int .i64 0], .int .i64 3]) (by rw [results_cell_tmp rfl]; go_simp) rfl ?_
    exact ⟨by rw [HANS.out]; rfl, ((B2.out.1.setCell B2.out.2 _).setCell B2.out.2 _).setCell B2.out.2 _⟩
  | cons a r =>
    have HANS : Hid (headD D t = (a, 0)) := by unfold headD; rw [ho]; rfl
    have hm1 : ¬ (m : Int) = 0 := by have := HM.out; rw [ho] at this; simp at this; omega
    have hm2 : ((m : Int) == 0) = false := by simpa using hm1
    have hm3 : 0 < m := by omega
    obtain ⟨g, rfl, hg⟩ := h2.out.1.at wC_len (i := 0) (o := a) (by rw [ho]; rfl)
    simp only [Nat.zero_mul, Nat.zero_add] at hg
    have y0 := hg 0 _ rfl
    have y1 := hg 1 _ rfl
    have y2 := hg 2 _ rfl
    obtain ⟨aj, at', ap⟩ := a
    simp only [] at y0 y1 y2
    clear N2 h2 H22 HM ho hg
    go_wp2_with fail
    refine bodyPost_ret (v := .tuple #[.agg #[.int .i64 aj, .string ⟨⟨at'⟩⟩, .int .i64 ap], .int .i64 0]) (by rw [results_cell_tmp rfl]; go_simp) rfl ?_
    exact ⟨by rw [HANS.out]; rfl, ((B2.out.1.setCell B2.out.2 _).setCell B2.out.2 _).setCell B2.out.2 _⟩
end
end Go.Proofs.Ythlbeofonbbbdaa

namespace Go.Proofs.Ythlbeofonbbbdaa
open Go.RowKit Go.Maps Go.WideMaps
/-- what a call that changes the document's queue leaves -/
def RqR (w : World) (T : Nat → Prop) (rb : Nat) (D : List J) (w' : World) : Prop := ∃ T', Rfq w' T' rb D ∧ Kp T w w' ∧ ∀ k, T' k → T k ∨ w.heap.size ≤ k
theorem RqR.refl {w : World} {T : Nat → Prop} {rb : Nat} {D : List J} (h : Rfq w T rb D) : RqR w T rb D w := ⟨T, h, Kp.refl _ _, fun _ h => .inl h⟩
section
variable {w w' : World} {T : Nat → Prop} {rb n c : Nat} {q : Option Addr} {D : List J}
theorem RQ.below' (h : RQ w T rb q n c D) (b : Below w.heap.size w w') : RqR w T rb D w' := ⟨T, ⟨q, n, c, h.below b⟩, Kp.of_below b, fun _ h => .inl h⟩
theorem rq_rowV {g : Nat} (h : RQ w T rb (some ⟨g, 0, none⟩) n c D) (r m : Nat) : RowV w g (r * 3) (((D.drop r).take m).flatMap wC) := fun k x hk => by
  have hk2 : k < (((D.drop r).take m).flatMap wC).length := (List.getElem?_eq_some_iff.1 hk).1
  rw [flat_length wC_len] at hk2
  have hi : k / 3 < ((D.drop r).take m).length := by omega
  obtain ⟨u, hu⟩ : ∃ u, ((D.drop r).take m)[k / 3]? = some u := ⟨_, List.getElem?_eq_getElem hi⟩
  have hu2 : D[r + k / 3]? = some u := by
    rw [List.getElem?_take] at hu
    split at hu
    · rw [List.getElem?_drop] at hu; exact hu
    · cases hu
  have e := cs_get wC_len hu (k % 3) (by omega)
  rw [show k / 3 * 3 + k % 3 = k by omega, hk] at e
  obtain ⟨g', e1, h0⟩ := h.r.at wC_len hu2
  cases e1
  have := h0 (k % 3) x e.symm
  rwa [show (r + k / 3) * 3 + k % 3 = r * 3 + k by omega] at this
theorem rq_cap (h : RQ w T rb q n c D) : n ≤ c := by
  rcases h.r.2 with ⟨e, hn⟩ | ⟨g, cap, cur, e, _, _, h1, _⟩
  · injection e; omega
  · injection e with _ e2 e3; omega
set_option maxHeartbeats 2000000 in
set_option maxRecDepth 100000 in
theorem rrem_any (h : RQ w T rb q n c D) (hnj : NJ D) (hn : n ≤ 1000) (j : Int) : Calls Try.prog 23 #[.pointer (some ⟨rb, 0, none⟩), .int .i64 j] w fun e w' => e = .returned (.int .i64 (remD D j).1) ∧ Hid (RqR w T rb (remD D j).2 w') := by
  have H37 : Hid (Calls Try.prog 37 #[.pointer (some ⟨rb, 0, none⟩), .int .i64 j] w fun e w' => e = .returned (.int .i64 (ix j D)) ∧ w' = w) := rfind_any h (by omega) j
  have HR : Hid (RqR w T rb D w) := RqR.refl ⟨_, _, _, h⟩
  rcases fJ_ix j D with ⟨k, a, e1, e2, e3, e4, e5⟩ | ⟨e1, e2⟩
  · rw [e1] at H37
    have hnl := h.len
    have hcap := rq_cap h
    have hk : k < n := by have := (List.getElem?_eq_some_iff.1 e2).1; omega
    have hr : remD D j = (0, D.take k ++ D.drop (k + 1)) := by
      unfold remD
      rw [e3]
      congr 1
      unfold dJ
      obtain ⟨hl, ha⟩ := List.getElem?_eq_some_iff.1 e2
      have hD : D = D.take k ++ a :: D.drop (k + 1) := by rw [← ha, ← List.drop_eq_getElem_cons hl, List.take_append_drop]
      have hnj2 := hnj
      rw [hD] at hnj2
      obtain ⟨p1, p2, p3⟩ := List.pairwise_append.1 hnj2
      have p4 := List.pairwise_cons.1 p2
      conv => lhs; rw [hD]
      rw [List.filter_append, List.filter_cons_of_neg (by simp [e4])]
      rw [List.filter_eq_self.2 fun x hx => ?_, List.filter_eq_self.2 fun x hx => ?_]
      · have := p4.1 x hx; rw [e4] at this; simpa using fun e => this e.symm
      · have := p3 x hx a (List.mem_cons_self ..); rw [e4] at this; simpa using this
    obtain ⟨g, rfl, -⟩ := rq_cells h e2
    rw [hr]
    have x0 := c1 h.h
    have xf := fz h.h 0
    have hlt := h.l rb h.t
    obtain ⟨k1, hk1⟩ : ∃ k1, k1 = k + 1 := ⟨_, rfl⟩
    have HQ : Hid (RQ w T rb (some ⟨g, 0, none⟩) n c D ∧ k1 = k + 1 ∧ n = D.length) := ⟨h, hk1, hnl⟩
    have i1 : (k : Int) + 1 = (k1 : Int) := by omega
    have i2 : IntKind.i64.wrap (k1 : Int) = (k1 : Int) := by simp [IntKind.wrap, IntKind.bits, IntKind.signed]; omega
    have i3 : (k : Int) ≤ (c : Int) := by omega
    have i4 : (k1 : Int) ≤ (n : Int) := by omega
    have i5 : (n : Int) ≤ (c : Int) := by omega
    have i6 : (k1 : Int) ≤ (c : Int) := by omega
    have i7 : ¬ (k : Int) < 0 := by omega
    have i8 : (k : Int) ≤ (n : Int) := by omega
    obtain ⟨F, hF⟩ : ∃ F, F = (D.drop 0).take k := ⟨_, rfl⟩
    obtain ⟨F2, hF2⟩ : ∃ F2, F2 = (D.drop k1).take (n - k1) := ⟨_, rfl⟩
    have HP : Hid (k = F.length ∧ n - k1 = F2.length ∧ [] ++ F ++ F2 = D.take k ++ D.drop (k + 1)) := by
      refine ⟨by rw [hF, List.length_take, List.length_drop]; omega, by rw [hF2, List.length_take, List.length_drop]; omega, ?_⟩
      have q : (D.drop k1).take (n - k1) = D.drop k1 := List.take_of_length_le (by rw [List.length_drop]; omega)
      rw [hF, hF2, q, List.drop_zero, List.nil_append, hk1]
    have V1 : Hid (RowV w g 0 (F.flatMap wC)) := by
      have := rq_rowV h 0 k
      rw [Nat.zero_mul] at this
      rw [hF]
      exact this
    obtain ⟨so, hso⟩ : ∃ so, so = if c = k1 then 0 else k1 * 3 := ⟨_, rfl⟩
    have hif : (if c = k1 then (some ⟨g, 0, none⟩ : Option Addr) else some ⟨g, k1 * 3, none⟩) = some ⟨g, so, none⟩ := by rw [hso]; split <;> rfl
    have V2 : Hid (∀ W, Below w.heap.size w W → RowV W g so (F2.flatMap wC) ∧ W.cell? ⟨rb, 0, none⟩ = some (.slice (some ⟨g, 0, none⟩) n c) ∧ W.frozen? ⟨rb, 0, none⟩ = false) := fun W b => by
      have hb := h.below b
      rw [hF2, hso]
      refine ⟨?_, c1 hb.h, fz hb.h 0⟩
      by_cases e : c = k1
      · rw [if_pos e, show n - k1 = 0 by omega, List.take_zero]
        intro x y hx
        simp at hx
      · rw [if_neg e]
        exact rq_rowV hb k1 (n - k1)
    have e9 : Hid (0 + k ≤ maxLen) := by show _ ≤ _; unfold maxLen; omega
    have e8 : Hid ((0 + k) * 32 ≤ 140737488355328) := by show _ ≤ _; omega
    have e7 : Hid (k + (n - k1) ≤ maxLen) := by show _ ≤ _; unfold maxLen; omega
    have e6 : Hid ((k + (n - k1)) * 32 ≤ 140737488355328) := by show _ ≤ _; omega
    clear hso hr hF hF2 hk1 h HR e1 e2 e3 e4 e5 hnj hnl
    go_enter Try.func23, Try.ntmps23
    go_upto_region 5 with (go_at_call 37; refine H37.out.mono ?_; rintro e w2 ⟨rfl, h2⟩; obtain rfl := h2.symm)
    clear H37 h2
    go_upto_region 6 with (at_builtin; refine append_g (B := w.heap.size) wC_len wC_one Try.underlying27 info56 rfl (by decide) rfl _ _ rfl none 0 0 [] rfl (GRow.nil _ _ _ _ _) (Nat.le_refl _) g 0 k c F rfl HP.out.1 V1.out e9.out e8.out ?_; intro p2 c2 w2 hr2 hb2; rw [Nat.zero_add] at hr2; have y := V2.out _ hb2; have y1 := y.2.1; have y2 := y.2.2; clear y)
    clear x0 xf
    go_upto_region 7 with (at_builtin; refine append_g (B := w.heap.size) wC_len wC_one Try.underlying27 info56 rfl (by decide) rfl _ _ rfl p2 k c2 ([] ++ F) rfl hr2 hb2.size g so (n - k1) (c - k1) F2 rfl HP.out.2.1 (V2.out _ hb2).1 e7.out e6.out ?_; intro p3 c3 w3 hr3 hb3; have z := V2.out _ (hb2.trans hb3); have z1 := z.2.1; have z2 := z.2.2; clear z)
    have B3 : Hid (Below w.heap.size w w3 ∧ RRow w.heap.size w3 (.slice p3 (k + (n - k1)) c3) (D.take k ++ D.drop (k + 1))) := ⟨hb2.trans hb3, by rw [← HP.out.2.2]; exact hr3⟩
    have hl3 : rb < w3.heap.size := Nat.lt_of_lt_of_le hlt B3.out.1.size
    clear y1 y2 hr2 hb2 hr3 hb3 V1 V2 e9 e8 e7 e6
    go_wp2_with fail
    go_ret
    refine ⟨rfl, ?_⟩
    obtain ⟨b3, r3⟩ := B3.out
    obtain ⟨hq, -, -⟩ := HQ.out
    have hrb3 := at_below b3 (Nat.le_refl _) hq.h
    have hown : ∀ g', (Value.slice p3 (k + (n - k1)) c3).ownBlock = some g' → w.heap.size ≤ g' ∧ g' < w3.heap.size := fun g' hg' => ⟨r3.ge hg', r3.lt hg'⟩
    refine ⟨fun x => x = rb ∨ (Value.slice p3 (k + (n - k1)) c3).ownBlock = some x, ⟨p3, _, c3, setB hrb3 _, ?_, .inl rfl, fun g' hg' => .inr hg', fun x hx => ?_⟩, ?_, fun x hx => ?_⟩
    · have : RRow 0 w3 (.slice p3 (k + (n - k1)) c3) (D.take k ++ D.drop (k + 1)) := by
        refine ⟨r3.1, ?_⟩
        rcases r3.2 with x | ⟨g', cap, cur, a1, a2, a3⟩
        · exact .inl x
        · exact .inr ⟨g', cap, cur, a1, Nat.zero_le _, a3⟩
      exact this.keep fun g' hg' => Below.heap_setCell _ _ _ _ (by have := (hown g' hg').1; show g' ≠ rb; omega)
    · have hsz : (w3.setCell ⟨rb, 0, none⟩ (.slice p3 (k + (n - k1)) c3)).heap.size = w3.heap.size := by simp [World.setCell]
      rw [hsz]
      rcases hx with rfl | hx
      · exact hl3
      · exact (hown x hx).2
    · exact (Kp.of_below b3).trans (Kp.of_set w3 ⟨rb, 0, none⟩ _ hq.t) fun _ _ e => e
    · rcases hx with rfl | hx
      · exact .inl hq.t
      · exact .inr (hown x hx).1
  · rw [e1] at H37
    have hr : remD D j = (3, D) := by unfold remD; rw [e2]
    rw [hr]
    clear h e1 e2 hr hnj
    go_enter Try.func23, Try.ntmps23
    go_wp2_with (go_at_call 37; refine H37.out.mono ?_; rintro e w2 ⟨rfl, h2⟩; obtain rfl := h2.symm)
    go_ret
    exact ⟨rfl, HR.out⟩
end
end Go.Proofs.Ythlbeofonbbbdaa

namespace Go.Proofs.Ythlbeofonbbbdaa
open Go.RowKit Go.Maps Go.WideMaps Go.Sort

/-- while a waiter is put in -/
structure Pu (w W : World) (T : Nat → Prop) (rb g cap n : Nat) (x : J) (E : List J) : Prop where
  pc : W.heap[rb]? = some (.cells #[.slice (some ⟨g, 0, none⟩) (n + 1) cap] 29 (0, 0))
  bx : W.heap[w.heap.size]? = some (.cells #[.int .i64 x.job, .string ⟨⟨x.tn⟩⟩, .int .i64 x.pr] 56 (0, 0))
  row : RRow 0 W (.slice (some ⟨g, 0, none⟩) (n + 1) cap) E
  kp : Kp T w W
  gl : T g ∨ w.heap.size < g
  ne : g ≠ rb ∧ g ≠ w.heap.size
section
variable {w W : World} {T : Nat → Prop} {rb g cap n c : Nat} {q : Option Addr} {D E : List J} {x : J}
theorem Pu.drew (h : Pu w W T rb g cap n x E) : Pu w W.drew T rb g cap n x E := ⟨h.pc, h.bx, h.row, h.kp.drew 1, h.gl, h.ne⟩
theorem Pu.below {W' : World} (h : Pu w W T rb g cap n x E) (b : Below W.heap.size W W') : Pu w W' T rb g cap n x E :=
  ⟨at_below b (Nat.le_refl _) h.pc, at_below b (Nat.le_refl _) h.bx, h.row.below b, h.kp.trans (Kp.of_below b) fun _ _ e => e, h.gl, h.ne⟩
theorem row_frozen (h : RRow 0 W (.slice (some ⟨g, 0, none⟩) (n + 1) cap) E) (i : Nat) : W.frozen? ⟨g, i, none⟩ = false := by
  rcases h.2 with ⟨e, _⟩ | ⟨g', cap', cur, e, hb, hgg, _⟩
  · cases e
  · injection e with e2
    injection e2 with e3
    injection e3 with e4
    subst e4
    exact fz hgg i
/-- a waiter of the row, written -/
theorem Pu.set (h : Pu w W T rb g cap n x E) {k : Nat} (hk : k < E.length) (v : J) : Pu w (((W.setCell ⟨g, k * 3, none⟩ (.int .i64 v.job)).setCell ⟨g, k * 3 + 1, none⟩ (.string ⟨⟨v.tn⟩⟩)).setCell ⟨g, k * 3 + 2, none⟩ (.int .i64 v.pr)) T rb g cap n x (E.set k v) := by
  have ne : ∀ q o, q ≠ g → W.heap[q]? = some o → (((W.setCell ⟨g, k * 3, none⟩ (.int .i64 v.job)).setCell ⟨g, k * 3 + 1, none⟩ (.string ⟨⟨v.tn⟩⟩)).setCell ⟨g, k * 3 + 2, none⟩ (.int .i64 v.pr)).heap[q]? = some o := fun q o hq ho => (Below.heap_setCell _ _ _ _ hq).trans ((Below.heap_setCell _ _ _ _ hq).trans ((Below.heap_setCell _ _ _ _ hq).trans ho))
  refine ⟨ne _ _ (fun e => h.ne.1 e.symm) h.pc, ne _ _ (fun e => h.ne.2 e.symm) h.bx, ?_, ?_, h.gl, h.ne⟩
  · have hrow := h.row
    unfold RRow GRow at hrow ⊢
    have := owns_set (owns_set (owns_set hrow rfl (k * 3) (.int .i64 v.job)) rfl (k * 3 + 1) (.string ⟨⟨v.tn⟩⟩)) rfl (k * 3 + 2) (.int .i64 v.pr)
    rw [List.length_set]
    have e : (E.set k v).flatMap wC = (((E.flatMap wC).set (k * 3) (.int .i64 v.job)).set (k * 3 + 1) (.string ⟨⟨v.tn⟩⟩)).set (k * 3 + 2) (.int .i64 v.pr) := by
      clear this hrow ne h
      induction E generalizing k with
      | nil => simp at hk
      | cons a r ih =>
        cases k with
        | zero => rfl
        | succ k =>
          have ih' := ih (k := k) (by simpa using hk)
          rw [List.set_cons_succ, List.flatMap_cons, List.flatMap_cons, ih']
          have l3 : (wC a).length = 3 := rfl
          rw [List.set_append_right _ _ (by rw [l3]; omega), List.set_append_right _ _ (by rw [l3]; omega), List.set_append_right _ _ (by rw [l3]; omega), l3]
          congr 2
          · congr 1
            · congr 1; omega
            · omega
          · omega
    rw [e]
    exact this
  · have hT : ∀ i u (V : World), Kp (fun k => T k ∨ w.heap.size < k) V (V.setCell ⟨g, i, none⟩ u) := fun i u V => Kp.of_set (S := fun k => T k ∨ w.heap.size < k) V ⟨g, i, none⟩ u h.gl
    have h3 := ((hT (k * 3) (.int .i64 v.job) W).trans (hT (k * 3 + 1) (.string ⟨⟨v.tn⟩⟩) _) fun _ _ e => e).trans (hT (k * 3 + 2) (.int .i64 v.pr) _) fun _ _ e => e
    exact h.kp.trans h3 fun i hi e => e.resolve_right (by omega)
theorem pu_mk {w4 : World} (h : RQ w T rb q n c D) (hown : w4.ownsRow 0 56 3 (.slice (some ⟨g, 0, none⟩) (n + 1) cap) (n + 1) (D.flatMap wC ++ wC x)) (hgrow : ((w.alloc (.cells #[.int .i64 x.job, .string ⟨⟨x.tn⟩⟩, .int .i64 x.pr] 56)).alloc (.cells #[.int .i64 x.job, .string ⟨⟨x.tn⟩⟩, .int .i64 x.pr] 56)).drew.grownBy w4 (Value.slice q n c).ownBlock) (hat : (Value.slice q n c).ownBlock = some g ∨ g = w.heap.size + 1 + 1) :
    w4.heap[rb]? = some (.cells #[.slice q n c] 29 (0, 0)) ∧ Pu w (w4.setCell ⟨rb, 0, none⟩ (.slice (some ⟨g, 0, none⟩) (n + 1) cap)) T rb g cap n x (D ++ [x]) := by
  have hlt := h.l rb h.t
  have hnb : ∀ g, (Value.slice q n c).ownBlock = some g → g ≠ rb := fun g hg => by
    rcases h.r.2 with ⟨e, _⟩ | ⟨g', cap, cur, e, hb, hgg, _⟩
    · rw [e] at hg; cases hg
    · rw [e] at hg
      cases hg
      intro e2
      have e3 : g' = rb := e2
      rw [e3, h.h] at hgg
      cases hgg
  have b2 : Below w.heap.size w ((w.alloc (.cells #[.int .i64 x.job, .string ⟨⟨x.tn⟩⟩, .int .i64 x.pr] 56)).alloc (.cells #[.int .i64 x.job, .string ⟨⟨x.tn⟩⟩, .int .i64 x.pr] 56)).drew := ((((Below.refl _ w).alloc (Nat.le_refl _) _).alloc (by simp) _).drew)
  have hk : Kp (fun k => (Value.slice q n c).ownBlock = some k) ((w.alloc (.cells #[.int .i64 x.job, .string ⟨⟨x.tn⟩⟩, .int .i64 x.pr] 56)).alloc (.cells #[.int .i64 x.job, .string ⟨⟨x.tn⟩⟩, .int .i64 x.pr] 56)).drew w4 := Kp.of_grown hgrow fun k e => e
  have sz2 : ((w.alloc (.cells #[.int .i64 x.job, .string ⟨⟨x.tn⟩⟩, .int .i64 x.pr] 56)).alloc (.cells #[.int .i64 x.job, .string ⟨⟨x.tn⟩⟩, .int .i64 x.pr] 56)).drew.heap.size = w.heap.size + 2 := by simp
  have h4 : w4.heap[rb]? = some (.cells #[.slice q n c] 29 (0, 0)) := (hk.block rb (by omega) fun e => hnb rb e rfl).trans ((b2.block rb hlt).trans h.h)
  have hb4 : w4.heap[w.heap.size]? = some (.cells #[.int .i64 x.job, .string ⟨⟨x.tn⟩⟩, .int .i64 x.pr] 56 (0, 0)) := (hk.block w.heap.size (by omega) fun e => by have := h.l _ (h.o _ e); omega).trans first0
  have hgr : g ≠ rb := by
    rcases hat with e | e
    · exact hnb g e
    · omega
  have hgl : T g ∨ w.heap.size < g := by
    rcases hat with e | e
    · exact .inl (h.o g e)
    · exact .inr (by omega)
  have hgw : g ≠ w.heap.size := by
    rcases hgl with e | e
    · have := h.l g e; omega
    · omega
  have hnl := h.len
  refine ⟨h4, ⟨setB h4 _, (Below.heap_setCell _ _ _ _ (show w.heap.size ≠ rb by omega)).trans hb4, ?_, ?_, hgl, ⟨hgr, hgw⟩⟩⟩
  · unfold RRow GRow
    rw [List.length_append, ← hnl, List.flatMap_append]
    refine ownsKeep hown fun k hk' => Below.heap_setCell _ _ _ _ ?_
    have : g = k := Option.some.inj hk'
    show k ≠ rb
    omega
  · refine ((Kp.of_below b2).trans (hk.mono (S' := T) fun k _ e => h.o k e) fun _ _ e => e).trans (Kp.of_set (S := T) w4 ⟨rb, 0, none⟩ _ h.t) fun _ _ e => e
theorem mid_length {α : Type} (l : List α) (y : α) (k : Nat) (hk : k ≤ l.length) : k < (l.take k ++ y :: l.drop k).length := by
  rw [List.length_append, List.length_take, List.length_cons]; omega
theorem set_mid {α : Type} (l : List α) (y f : α) (k : Nat) (hk : k ≤ l.length) : (l.take k ++ y :: l.drop k).set k f = l.take k ++ f :: l.drop k := by
  rw [List.set_append_right _ _ (by rw [List.length_take]; omega), List.length_take, show k - min k l.length = 0 by omega]
  rfl
theorem mid_at {α : Type} (l : List α) (y : α) (k : Nat) (hk : k ≤ l.length) : (l.take k ++ y :: l.drop k)[k]? = some y := by
  rw [List.getElem?_append_right (by rw [List.length_take]; omega), List.length_take, show k - min k l.length = 0 by omega]
  rfl
theorem shift_eq {α : Type} {St : List α} {t : Nat} {z : α} (h : St[t]? = some z) : St.take (t + 1) ++ z :: St.drop (t + 1) = St.take t ++ z :: St.drop t := by
  obtain ⟨hl, rfl⟩ := List.getElem?_eq_some_iff.1 h
  rw [List.take_succ_eq_append_getElem hl, List.append_assoc, List.drop_eq_getElem_cons hl]
  rfl
/-- where a waiter comes to stand -/
theorem ins_at {D : List J} {k : Nat} (hs : SJ D) (hd : ∀ z ∈ D.drop k, bf x z = true) (hk : k = 0 ∨ ∃ z, D[k - 1]? = some z ∧ bf x z = false) : iJ x D = D.take k ++ x :: D.drop k := by
  induction D generalizing k with
  | nil => simp [iJ]
  | cons y r ih =>
    have h1 := List.pairwise_cons.1 hs
    cases k with
    | zero =>
      have := hd y (List.mem_cons_self ..)
      unfold iJ
      rw [if_pos this]
      rfl
    | succ k =>
      obtain ⟨z, hz, hf⟩ := hk.resolve_left (by omega)
      rw [Nat.add_sub_cancel] at hz
      have hy : bf x y = false := by
        cases hq : bf x y with
        | false => rfl
        | true =>
          cases k with
          | zero =>
            have : y = z := by simpa using hz
            rw [this, hf] at hq; cases hq
          | succ k =>
            have := bf_trans hq (h1.1 z (List.mem_of_getElem? (i := k) (by simpa using hz)))
            rw [hf] at this; cases this
      unfold iJ
      rw [if_neg (by rw [hy]; simp), List.take_succ_cons, List.drop_succ_cons, List.cons_append]
      congr 1
      refine ih h1.2 (fun z hz => hd z (by simpa using hz)) ?_
      cases k with
      | zero => exact .inl rfl
      | succ k => exact .inr ⟨z, by simpa using hz, hf⟩
theorem Pu.fin (h : Pu w W T rb g cap n x E) (hq : ∀ k, T k → k < w.heap.size) (ht : T rb) : RqR w T rb E W := by
  have hgs := h.row.lt (g := g) rfl
  refine ⟨fun k => k = rb ∨ k = g, ⟨_, _, _, h.pc, h.row, .inl rfl, fun g' e => .inr (Option.some.inj e).symm, fun k hk => ?_⟩, h.kp, fun k hk => ?_⟩
  · rcases hk with rfl | rfl
    · exact Nat.lt_of_lt_of_le (hq _ ht) h.kp.size
    · exact hgs
  · rcases hk with rfl | rfl
    · exact .inl ht
    · exact h.gl.imp id Nat.le_of_lt
end
end Go.Proofs.Ythlbeofonbbbdaa

namespace Go.Proofs.Ythlbeofonbbbdaa
open Go.RowKit Go.Maps Go.WideMaps Go.Sort
theorem grown38 {W : World} {f : FuncId} {args : Array Value} {v : Value} (H : Hid (∀ w, Calls Try.prog f args w fun e w' => e = .returned v ∧ RowKit.Below w.heap.size w w')) :
    Hid (∀ d os, Calls Try.prog f args (grow (redrawn W d) os) fun e w'' => e = .returned v ∧ ∃ p : Regrown, w'' = grow (redrawn W p.d) p.os) := fun _ _ => Calls.regrown_of (H.out _)
section
variable {w : World} {T : Nat → Prop} {rb n c : Nat} {q : Option Addr} {D : List J}
set_option maxHeartbeats 8000000 in
set_option maxRecDepth 100000 in
theorem rpush_in (h : RQ w T rb q n c D) (hs : SJ D) (hn : n ≤ 1000) (x : J) (hx : x.ok = true) (hf : fJ x.job D = none) : Calls Try.prog 19 #[.pointer (some ⟨rb, 0, none⟩), .agg #[.int .i64 x.job, .string ⟨⟨x.tn⟩⟩, .int .i64 x.pr]] w fun e w' => e = .returned (.int .i64 0) ∧ Hid (RqR w T rb (iJ x D) w') := by
  obtain ⟨j, t, p⟩ := x
  obtain ⟨j1, j2, p1, p2⟩ := ok_pr hx
  simp only [] at j1 j2 p1 p2
  have h1 : ¬ j < 1 := by omega
  have h2 : ¬ 100 < j := by omega
  have h3 : ¬ p < 0 := by omega
  have h4 : ¬ 100 < p := by omega
  have hlt := h.l rb h.t
  have q0 := c1 h.h
  have f0 := fz h.h 0
  have hix : ix j D = -1 := by
    rcases fJ_ix j D with ⟨k, a, _, _, e3, _⟩ | ⟨e, _⟩
    · rw [hf] at e3; cases e3
    · exact e
  have bA : Below w.heap.size w (w.alloc (.cells #[.int .i64 j, .string ⟨⟨t⟩⟩, .int .i64 p] 56)) := (Below.refl _ w).alloc (Nat.le_refl _) _
  have X37 : Hid (Calls Try.prog 37 #[.pointer (some ⟨rb, 0, none⟩), .int .i64 j] (w.alloc (.cells #[.int .i64 j, .string ⟨⟨t⟩⟩, .int .i64 p] 56)) fun e w' => e = .returned (.int .i64 (-1)) ∧ w' = w.alloc (.cells #[.int .i64 j, .string ⟨⟨t⟩⟩, .int .i64 p] 56)) := by
    have := rfind_any (h.below bA) (by omega) j
    rw [hix] at this
    exact this
  have HQ : Hid (RQ w T rb q n c D ∧ SJ D) := ⟨h, hs⟩
  have hnl : Hid (D.length = n) := h.len.symm
  have ho : Hid (w.ownsRow 0 56 3 (.slice q n c) n (D.flatMap wC)) := by
    have := h.r
    unfold RRow GRow at this
    rw [← h.len] at this
    exact this
  clear j1 j2 p1 p2 hx hf hix bA h hs
  simp only []
  go_enter Try.func19, Try.ntmps19
  go_upto_region 5 with (go_at_call 37; refine X37.out.mono ?_; rintro e w1 ⟨rfl, h1⟩; obtain rfl := h1.symm)
  obtain ⟨i0, hi, hz0, hz1, hz2⟩ := info_parts info56
  have HI : Hid (Try.prog.info? 56 = some i0 ∧ i0.zero = some (.agg #[.int .i64 0, .string ⟨#[]⟩, .int .i64 0]) ∧ i0.size = 3 ∧ i0.bytes = 32) := ⟨hi, hz0, hz1, hz2⟩
  clear hi hz0 hz1 hz2 X37
  have O1 : Hid (((w.alloc (.cells #[.int .i64 j, .string ⟨⟨t⟩⟩, .int .i64 p] 56)).alloc (.cells #[.int .i64 j, .string ⟨⟨t⟩⟩, .int .i64 p] 56)).drew.ownsRow 0 56 3 (.slice q n c) n (D.flatMap wC)) :=
    ownsKeep ho.out fun g hg => ((((Below.refl _ w).alloc (Nat.le_refl _) _).alloc (by simp) _).drew).block g (World.ownsRow.lt ho.out g hg).2
  have HN : Hid (∀ i u, ([.int .i64 j, .string ⟨⟨t⟩⟩, .int .i64 p] : List Value)[i]? = some u → ((w.alloc (.cells #[.int .i64 j, .string ⟨⟨t⟩⟩, .int .i64 p] 56)).alloc (.cells #[.int .i64 j, .string ⟨⟨t⟩⟩, .int .i64 p] 56)).drew.cell? ((⟨w.heap.size + 1, 0, none⟩ : Addr).add i) = some u) := by
    refine World.news_of_block (cs := #[.int .i64 j, .string ⟨⟨t⟩⟩, .int .i64 p]) (t := 56) (fr := (0, 0)) ?_
    exact new1
  have H1 : Hid (∀ u ∈ ([.int .i64 j, .string ⟨⟨t⟩⟩, .int .i64 p] : List Value), u.oneCell' = true) := wC_one ⟨j, t, p⟩
  have HS : Hid (((w.alloc (.cells #[.int .i64 j, .string ⟨⟨t⟩⟩, .int .i64 p] 56)).alloc (.cells #[.int .i64 j, .string ⟨⟨t⟩⟩, .int .i64 p] 56)).drew.heap.size = w.heap.size + 1 + 1) := by
    refine (?_ : _ = _)
    simp
  have hne : rb ≠ w.heap.size := by omega
  go_cut [] from 29 to 38 (fun wx => ∃ g cap, Hid (Pu w wx T rb g cap n ⟨j, t, p⟩ (D ++ [⟨j, t, p⟩])))
  case first =>
    go_region_law (refine step_append_lies _ rfl (.tmp 33) (.tmp 35) 27 rfl 0 56 i0 _ 3 32 Try.underlying27 HI.out.1 HI.out.2.1 HI.out.2.2.1 HI.out.2.2.2 rfl (by decide) (.slice q n c) n (D.flatMap wC) (by simp [Act.eval]) O1.out ⟨w.heap.size + 1, 0, none⟩ 1 1 [.int .i64 j, .string ⟨⟨t⟩⟩, .int .i64 p] (by simp [Act.eval]) rfl HN.out H1.out (by decide) (by unfold maxLen; omega) (by omega) (Nat.zero_le _) _ HS.out ?_; intro g cap w4 hown hgrow hat hlt4; obtain ⟨hw4, hpw⟩ := pu_mk (x := ⟨j, t, p⟩) HQ.out.1 hown hgrow hat; clear hown hgrow hat hlt4; have d0 := c1 hw4; have df := fz hw4 0; have HW : Hid (Pu w (w4.setCell ⟨rb, 0, none⟩ (.slice (some ⟨g, 0, none⟩) (n + 1) cap)) T rb g cap n ⟨j, t, p⟩ (D ++ [⟨j, t, p⟩])) := hpw; clear hpw hw4)
    all_goals (go_wp2_with fail; go_meet)
    all_goals exact ⟨_, _, HW⟩
  case rest =>
    obtain ⟨g, cap, HW⟩ := hcut
    clear O1 HN H1 HS HI q0 f0 ho
    have d0 := c1 HW.out.pc
    have hw9 : IntKind.i64.wrap ((n : Int) + 1 - 1) = (n : Int) := by rw [IntKind.wrap_i64]; omega
    have hrbl : rb < wc.heap.size := (Array.getElem?_eq_some_iff.1 HW.out.pc).1
    go_upto_region 7 with fail
    clear d0 hw9 hrbl
    go_wp2_with fail
    go_loopw [5] (fun x wr => ∃ (k : Nat), x = .int .i64 k ∧ k ≤ n ∧ Hid (∃ y, Pu w wr T rb g cap n ⟨j, t, p⟩ (D.take k ++ y :: D.drop k) ∧ ∀ z ∈ D.drop k, bf ⟨j, t, p⟩ z = true)) (fun x _ => (intOf x).toNat)
    case atStart =>
      refine ⟨n, by simp, Nat.le_refl _, ⟨j, t, p⟩, ?_, fun z hz => ?_⟩
      · rw [List.take_of_length_le (by have := hnl.out; omega), List.drop_of_length_le (by have := hnl.out; omega)]
        exact HW.out
      · rw [List.drop_of_length_le (by have := hnl.out; omega)] at hz; cases hz
    case round =>
      obtain ⟨k, rfl, hk, HK⟩ := hrel
      clear HW
      obtain ⟨y, hy, hdr⟩ := HK.out
      have HX0 : Hid (Pu w wr T rb g cap n ⟨j, t, p⟩ (D.take k ++ y :: D.drop k)) := hy
      have HDR : Hid (∀ z ∈ D.drop k, bf ⟨j, t, p⟩ z = true) := hdr
      clear HK hy hdr
      have x0 := c1 HX0.out.pc
      have hrbl : rb < wr.heap.size := (Array.getElem?_eq_some_iff.1 HX0.out.pc).1
      rcases Nat.eq_zero_or_pos k with hk0 | hk0
      · have j1' : decide ((0 : Int) < (k : Int)) = false := decide_eq_false (by omega)
        have j2' : decide (0 < k) = false := decide_eq_false (by omega)
        have j3' : ¬ (0 : Int) < (k : Int) := by omega
        have j4' : ¬ 0 < k := by omega
        have HK0 : Hid (k = 0 ∨ ∃ z, D[k - 1]? = some z ∧ bf ⟨j, t, p⟩ z = false) := .inl hk0
        clear hk0
        go_upto_region 7 with fail
        go_quiet (fail)
        have HX : Hid (Pu w (wr.drewN nq) T rb g cap n ⟨j, t, p⟩ (D.take k ++ y :: D.drop k)) := HX0.out.below (below_drewN (Below.refl _ _) nq)
        clear HX0 j1' j2' j3' j4' x0 hrbl
        generalize wr.drewN nq = W7 at *
        have x0 := c1 HX.out.pc
        obtain ⟨b0, b1, b2⟩ := c3 HX.out.bx
        obtain ⟨g', eg, hgc⟩ := HX.out.row.at wC_len (mid_at D y k (by have := hnl.out; omega))
        obtain rfl : g = g' := by injection eg with eg; injection eg
        have y0 : W7.cell? ⟨g, k * 3, none⟩ = some (.int .i64 y.job) := hgc 0 _ rfl
        have y1 : W7.cell? ⟨g, k * 3 + 1, none⟩ = some (.string ⟨⟨y.tn⟩⟩) := hgc 1 _ rfl
        have y2 : W7.cell? ⟨g, k * 3 + 2, none⟩ = some (.int .i64 y.pr) := hgc 2 _ rfl
        have f0 := row_frozen HX.out.row (k * 3)
        have f1 := row_frozen HX.out.row (k * 3 + 1)
        have f2 := row_frozen HX.out.row (k * 3 + 2)
        have hrbl : rb < W7.heap.size := (Array.getElem?_eq_some_iff.1 HX.out.pc).1
        have hwl : w.heap.size < W7.heap.size := (Array.getElem?_eq_some_iff.1 HX.out.bx).1
        have k9 : (k : Int) < (n : Int) + 1 := by omega
        have k9' : k < n + 1 := by omega
        have HF : Hid (Pu w (((W7.setCell ⟨g, k * 3, none⟩ (.int .i64 j)).setCell ⟨g, k * 3 + 1, none⟩ (.string ⟨⟨t⟩⟩)).setCell ⟨g, k * 3 + 2, none⟩ (.int .i64 p)) T rb g cap n ⟨j, t, p⟩ (iJ ⟨j, t, p⟩ D)) := by
          have := HX.out.set (mid_length D y k (by have := hnl.out; omega)) ⟨j, t, p⟩
          rw [set_mid D y ⟨j, t, p⟩ k (by have := hnl.out; omega), ← ins_at HQ.out.2 HDR.out HK0.out] at this
          exact this
        have HT : Hid ((∀ k, T k → k < w.heap.size) ∧ T rb) := ⟨HQ.out.1.l, HQ.out.1.t⟩
        clear eg hgc HX HDR HK0
        go_upto_region 10 with fail
        go_region
        all_goals go_wp2_with fail
        all_goals go_ret
        all_goals first | exact ⟨rfl, HF.out.fin HT.out.1 HT.out.2⟩ | exact ⟨rfl, HF.out.drew.fin HT.out.1 HT.out.2⟩
      · obtain ⟨r, hr⟩ : ∃ r, k = r + 1 := ⟨k - 1, by omega⟩
        obtain ⟨z, hz⟩ : ∃ z, D[r]? = some z := ⟨_, List.getElem?_eq_getElem (by have := hnl.out; omega)⟩
        have hzm : (D.take k ++ y :: D.drop k)[r]? = some z := by rw [List.getElem?_append_left (by rw [List.length_take]; have := hnl.out; omega), List.getElem?_take, if_pos (by omega)]; exact hz
        obtain ⟨g', eg, hgc⟩ := HX0.out.row.at wC_len hzm
        obtain rfl : g = g' := by injection eg with eg; injection eg
        have z0 : wr.cell? ⟨g, r * 3, none⟩ = some (.int .i64 z.job) := hgc 0 _ rfl
        have z1 : wr.cell? ⟨g, r * 3 + 1, none⟩ = some (.string ⟨⟨z.tn⟩⟩) := hgc 1 _ rfl
        have z2 : wr.cell? ⟨g, r * 3 + 2, none⟩ = some (.int .i64 z.pr) := hgc 2 _ rfl
        obtain ⟨b0, b1, b2⟩ := c3 HX0.out.bx
        have H38 : Hid (∀ W, Calls Try.prog 38 #[.agg #[.int .i64 j, .string ⟨⟨t⟩⟩, .int .i64 p], .agg #[.int .i64 z.job, .string ⟨⟨z.tn⟩⟩, .int .i64 z.pr]] W fun e w' => e = .returned (.bool (bf ⟨j, t, p⟩ z)) ∧ RowKit.Below W.heap.size W w') := fun W => rbefore_any ⟨j, t, p⟩ z W
        have HZT : Hid (D[r]? = some z ∧ k = r + 1) := ⟨hz, hr⟩
        have g1 : (0 : Int) < (k : Int) := by omega
        have g2 : decide ((0 : Int) < (k : Int)) = true := decide_eq_true g1
        have g2' : decide (0 < k) = true := decide_eq_true hk0
        have g3' : (k : Int) - 1 = (r : Int) := by omega
        have g4 : IntKind.i64.wrap (r : Int) = (r : Int) := by simp [IntKind.wrap, IntKind.bits, IntKind.signed]; omega
        have g5 : (r : Int) < (n : Int) + 1 := by omega
        have g5' : r < n + 1 := by omega
        have k9 : (k : Int) < (n : Int) + 1 := by omega
        clear hz hzm hr eg hgc
        obtain ⟨zj, zt, zp⟩ := z
        simp only [] at z0 z1 z2 H38
        obtain ⟨bb, hbb⟩ : ∃ bb, bb = bf ⟨j, t, p⟩ ⟨zj, zt, zp⟩ := ⟨_, rfl⟩
        rw [← hbb] at H38
        have HBB : Hid (bb = bf ⟨j, t, p⟩ ⟨zj, zt, zp⟩) := hbb
        clear hbb
        go_upto_region 7 with fail
        have G38 := grown38 (W := wr) H38
        have m0 := cell_regrown x0
        have m1 := cell_regrown z0
        have m2 := cell_regrown z1
        have m3 := cell_regrown z2
        have m4 := cell_regrown b0
        have m5 := cell_regrown b1
        have m6 := cell_regrown b2
        refine wp_region_quiet_below (by kernel_rfl) (by kernel_rfl) ?_
        repeat (first | go_big_quiet_step ((go_at_call 38; exact G38.out _ _)) | quiet_step ((go_at_call 38; exact G38.out _ _)))
        refine wpQuiet_nil ?_
        intro _ hw'
        obtain ⟨⟨dq, osq⟩, hw''⟩ := hw'
        subst hw''
        have HX : Hid (Pu w (grow (redrawn wr dq) osq) T rb g cap n ⟨j, t, p⟩ (D.take k ++ y :: D.drop k)) := HX0.out.below (below_regrown wr dq osq)
        clear m0 m1 m2 m3 m4 m5 m6 x0 z0 z1 z2 b0 b1 b2 H38 G38 HX0 hrbl
        generalize grow (redrawn wr dq) osq = W7 at *
        cases bb with
        | true =>
          have x0 := c1 HX.out.pc
          obtain ⟨g', eg, hgc⟩ := HX.out.row.at wC_len (mid_at D y k (by have := hnl.out; omega))
          obtain rfl : g = g' := by injection eg with eg; injection eg
          have y0 : W7.cell? ⟨g, k * 3, none⟩ = some (.int .i64 y.job) := hgc 0 _ rfl
          have y1 : W7.cell? ⟨g, k * 3 + 1, none⟩ = some (.string ⟨⟨y.tn⟩⟩) := hgc 1 _ rfl
          have y2 : W7.cell? ⟨g, k * 3 + 2, none⟩ = some (.int .i64 y.pr) := hgc 2 _ rfl
          have hzm : (D.take k ++ y :: D.drop k)[r]? = some ⟨zj, zt, zp⟩ := by rw [List.getElem?_append_left (by rw [List.length_take]; have := hnl.out; have := HZT.out.2; omega), List.getElem?_take, if_pos (by have := HZT.out.2; omega)]; exact HZT.out.1
          obtain ⟨g', eg2, hgz⟩ := HX.out.row.at wC_len hzm
          obtain rfl : g = g' := by injection eg2 with eg2; injection eg2
          have z0 : W7.cell? ⟨g, r * 3, none⟩ = some (.int .i64 zj) := hgz 0 _ rfl
          have z1 : W7.cell? ⟨g, r * 3 + 1, none⟩ = some (.string ⟨⟨zt⟩⟩) := hgz 1 _ rfl
          have z2 : W7.cell? ⟨g, r * 3 + 2, none⟩ = some (.int .i64 zp) := hgz 2 _ rfl
          have f0 := row_frozen HX.out.row (k * 3)
          have f1 := row_frozen HX.out.row (k * 3 + 1)
          have f2 := row_frozen HX.out.row (k * 3 + 2)
          have hrbl : rb < W7.heap.size := (Array.getElem?_eq_some_iff.1 HX.out.pc).1
          have HF : Hid (Pu w (((W7.setCell ⟨g, k * 3, none⟩ (.int .i64 zj)).setCell ⟨g, k * 3 + 1, none⟩ (.string ⟨⟨zt⟩⟩)).setCell ⟨g, k * 3 + 2, none⟩ (.int .i64 zp)) T rb g cap n ⟨j, t, p⟩ (D.take r ++ ⟨zj, zt, zp⟩ :: D.drop r) ∧ ∀ z ∈ D.drop r, bf ⟨j, t, p⟩ z = true) := by
            have hk' := HZT.out.2
            have h1 := HX.out.set (mid_length D y k (by have := hnl.out; omega)) ⟨zj, zt, zp⟩
            rw [set_mid D y _ k (by have := hnl.out; omega)] at h1
            refine ⟨by rw [← shift_eq HZT.out.1, ← hk']; exact h1, fun v hv => ?_⟩
            obtain ⟨hl, hze⟩ := List.getElem?_eq_some_iff.1 HZT.out.1
            rw [List.drop_eq_getElem_cons hl] at hv
            rcases List.mem_cons.1 hv with rfl | hv
            · rw [hze]; exact HBB.out.symm
            · exact HDR.out v (by rw [hk']; exact hv)
          clear eg hgc eg2 hgz hzm HX HDR HBB
          go_upto_region 8 with fail
          go_region
          all_goals go_wp2_with fail
          all_goals first | exact ⟨⟨r, rfl, by omega, _, HF.out.1, HF.out.2⟩, by simp [intOf]; omega⟩ | exact ⟨⟨r, rfl, by omega, _, HF.out.1.drew, HF.out.2⟩, by simp [intOf]; omega⟩
        | false =>
          have HK0 : Hid (k = 0 ∨ ∃ z, D[k - 1]? = some z ∧ bf ⟨j, t, p⟩ z = false) := .inr ⟨_, by rw [HZT.out.2]; exact HZT.out.1, HBB.out.symm⟩
          clear HBB HZT g1 g2 g2' g3' g4 g5 g5' k9
          have x0 := c1 HX.out.pc
          obtain ⟨b0, b1, b2⟩ := c3 HX.out.bx
          obtain ⟨g', eg, hgc⟩ := HX.out.row.at wC_len (mid_at D y k (by have := hnl.out; omega))
          obtain rfl : g = g' := by injection eg with eg; injection eg
          have y0 : W7.cell? ⟨g, k * 3, none⟩ = some (.int .i64 y.job) := hgc 0 _ rfl
          have y1 : W7.cell? ⟨g, k * 3 + 1, none⟩ = some (.string ⟨⟨y.tn⟩⟩) := hgc 1 _ rfl
          have y2 : W7.cell? ⟨g, k * 3 + 2, none⟩ = some (.int .i64 y.pr) := hgc 2 _ rfl
          have f0 := row_frozen HX.out.row (k * 3)
          have f1 := row_frozen HX.out.row (k * 3 + 1)
          have f2 := row_frozen HX.out.row (k * 3 + 2)
          have hrbl : rb < W7.heap.size := (Array.getElem?_eq_some_iff.1 HX.out.pc).1
          have hwl : w.heap.size < W7.heap.size := (Array.getElem?_eq_some_iff.1 HX.out.bx).1
          have k9 : (k : Int) < (n : Int) + 1 := by omega
          have k9' : k < n + 1 := by omega
          have HF : Hid (Pu w (((W7.setCell ⟨g, k * 3, none⟩ (.int .i64 j)).setCell ⟨g, k * 3 + 1, none⟩ (.string ⟨⟨t⟩⟩)).setCell ⟨g, k * 3 + 2, none⟩ (.int .i64 p)) T rb g cap n ⟨j, t, p⟩ (iJ ⟨j, t, p⟩ D)) := by
            have := HX.out.set (mid_length D y k (by have := hnl.out; omega)) ⟨j, t, p⟩
            rw [set_mid D y ⟨j, t, p⟩ k (by have := hnl.out; omega), ← ins_at HQ.out.2 HDR.out HK0.out] at this
            exact this
          have HT : Hid ((∀ k, T k → k < w.heap.size) ∧ T rb) := ⟨HQ.out.1.l, HQ.out.1.t⟩
          clear eg hgc HX HDR HK0
          go_upto_region 10 with fail
          go_region
          all_goals go_wp2_with fail
          all_goals go_ret
          all_goals first | exact ⟨rfl, HF.out.fin HT.out.1 HT.out.2⟩ | exact ⟨rfl, HF.out.drew.fin HT.out.1 HT.out.2⟩
end
end Go.Proofs.Ythlbeofonbbbdaa
