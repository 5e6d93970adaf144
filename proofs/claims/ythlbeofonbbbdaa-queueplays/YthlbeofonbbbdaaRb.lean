/-
  The document's queue: Push of the first waiter.
-/
import Derived.Test.YthlbeofonbbbdaaRa
import Derived.Deep.RegionLaw
import Derived.Deep.AppendLies
namespace Go.Proofs.Ythlbeofonbbbdaa
open Go.RowKit Go.Maps Go.WideMaps

theorem c1 {w : World} {g : Nat} {a : Value} {t : TypeId} (h : w.heap[g]? = some (.cells #[a] t (0, 0))) : w.cell? ⟨g, 0, none⟩ = some a := by
  unfold World.cell?
  rw [h]
  simp
/-- the document's queue holds one waiter -/
structure R1 (w W : World) (rb g cap : Nat) (x : J) : Prop where
  pc : W.heap[rb]? = some (.cells #[.slice (some ⟨g, 0, none⟩) 1 cap] 29 (0, 0))
  bx : W.heap[w.heap.size]? = some (.cells (wC x).toArray 56 (0, 0))
  row : RRow 0 W (.slice (some ⟨g, 0, none⟩) 1 cap) [x]
  kp : Kp (· = rb) w W
  ge : w.heap.size < g
theorem owns_set {w : World} {B t s n g : Nat} {v : Value} {xs : List Value} (h : w.ownsRow B t s v n xs) (hv : v.ownBlock = some g) (i : Nat) (u : Value) : (w.setCell ⟨g, i, none⟩ u).ownsRow B t s v n (xs.set i u) := by
  refine ⟨by rw [List.length_set]; exact h.1, ?_⟩
  rcases h.2 with ⟨rfl, _⟩ | ⟨g', cap, cur, rfl, hb, hgg, h1, h2, h3, h4⟩
  · cases hv
  · obtain rfl := Option.some.inj hv
    refine .inr ⟨g', cap, cur.setIfInBounds i u, rfl, hb, setB hgg u, h1, h2, by simpa using h3, ?_⟩
    rw [← h4, Array.toList_setIfInBounds, List.take_set]
theorem r1_mk {w w4 : World} {rb g cap : Nat} {x : J} (hc : w.heap[rb]? = some (.cells #[.slice none 0 0] 29 (0, 0))) (hown : w4.ownsRow 0 56 3 (.slice (some ⟨g, 0, none⟩) (0 + 1) cap) (0 + 1) ([] ++ wC x)) (hgrow : ((w.alloc (.cells (wC x).toArray 56)).alloc (.cells (wC x).toArray 56)).drew.grownBy w4 (Value.slice none 0 0).ownBlock) (hat : (Value.slice none 0 0).ownBlock = some g ∨ g = w.heap.size + 1 + 1) :
    w4.heap[rb]? = some (.cells #[.slice none 0 0] 29 (0, 0)) ∧ R1 w (w4.setCell ⟨rb, 0, none⟩ (.slice (some ⟨g, 0, none⟩) 1 cap)) rb g cap x := by
  have hlt := (Array.getElem?_eq_some_iff.1 hc).1
  have eg : g = w.heap.size + 1 + 1 := hat.resolve_left (fun e => by cases e)
  have hk : Kp (fun _ => False) ((w.alloc (.cells (wC x).toArray 56)).alloc (.cells (wC x).toArray 56)).drew w4 := Kp.of_grown hgrow fun k e => by cases e
  have at4 : ∀ q o, ((w.alloc (.cells (wC x).toArray 56)).alloc (.cells (wC x).toArray 56)).heap[q]? = some o → w4.heap[q]? = some o := fun q o ho => (hk.block q (Array.getElem?_eq_some_iff.1 ho).1 (fun h => h)).trans ho
  have h4 := at4 _ _ (at_alloc (at_alloc hc))
  have hb := at4 _ _ first0
  have hrg : rb ≠ g := by omega
  have hbr : w.heap.size ≠ rb := by omega
  refine ⟨h4, ⟨setB h4 _, (Below.heap_setCell _ _ _ _ hbr).trans hb, ?_, ?_, by omega⟩⟩
  · show World.ownsRow _ 0 56 3 _ 1 _
    refine ownsKeep (show w4.ownsRow 0 56 3 (.slice (some ⟨g, 0, none⟩) 1 cap) 1 (wC x) from hown) fun k hk' => Below.heap_setCell _ _ _ _ ?_
    have : g = k := Option.some.inj hk'
    show k ≠ rb
    omega
  · have b2 : Below w.heap.size w ((w.alloc (.cells (wC x).toArray 56)).alloc (.cells (wC x).toArray 56)).drew := ((((Below.refl _ w).alloc (Nat.le_refl _) _).alloc (by simp) _).drew)
    exact (((Kp.of_below b2 (S := fun k => k = rb)).trans hk (fun _ _ e => e.elim))).trans (Kp.of_set (S := (· = rb)) _ ⟨rb, 0, none⟩ _ rfl) fun _ _ e => e
theorem R1.again {w W : World} {rb g cap : Nat} {x : J} (h : R1 w W rb g cap x) (hrb : rb < w.heap.size) : R1 w (((W.setCell ⟨g, 0, none⟩ (.int .i64 x.job)).setCell ⟨g, 1, none⟩ (.string ⟨⟨x.tn⟩⟩)).setCell ⟨g, 2, none⟩ (.int .i64 x.pr)) rb g cap x := by
  have hg := h.ge
  have ne : ∀ q o, q ≠ g → W.heap[q]? = some o → (((W.setCell ⟨g, 0, none⟩ (.int .i64 x.job)).setCell ⟨g, 1, none⟩ (.string ⟨⟨x.tn⟩⟩)).setCell ⟨g, 2, none⟩ (.int .i64 x.pr)).heap[q]? = some o := fun q o hq ho => (Below.heap_setCell _ _ _ _ hq).trans ((Below.heap_setCell _ _ _ _ hq).trans ((Below.heap_setCell _ _ _ _ hq).trans ho))
  refine ⟨ne _ _ (by omega) h.pc, ne _ _ (by omega) h.bx, ?_, ?_, hg⟩
  · have := owns_set (owns_set (owns_set h.row rfl 0 (.int .i64 x.job)) rfl 1 (.string ⟨⟨x.tn⟩⟩)) rfl 2 (.int .i64 x.pr)
    exact this
  · have s3 : Kp (· = g) W (((W.setCell ⟨g, 0, none⟩ (.int .i64 x.job)).setCell ⟨g, 1, none⟩ (.string ⟨⟨x.tn⟩⟩)).setCell ⟨g, 2, none⟩ (.int .i64 x.pr)) := ((Kp.of_set (S := (· = g)) _ ⟨g, 0, none⟩ _ rfl).trans (Kp.of_set (S := (· = g)) _ ⟨g, 1, none⟩ _ rfl) fun _ _ e => e).trans (Kp.of_set (S := (· = g)) _ ⟨g, 2, none⟩ _ rfl) fun _ _ e => e
    exact h.kp.trans s3 fun k hk e => by omega
theorem R1.drew {w W : World} {rb g cap : Nat} {x : J} (h : R1 w W rb g cap x) : R1 w W.drew rb g cap x := ⟨h.pc, h.bx, h.row, h.kp.drew 1, h.ge⟩
set_option maxHeartbeats 2000000 in
set_option maxRecDepth 100000 in
theorem rpush_one (w : World) (rb : Nat) (x : J) (hx : x.ok = true) (hc : Hid (w.heap[rb]? = some (.cells #[.slice none 0 0] 29 (0, 0)))) : Calls Try.prog 19 #[.pointer (some ⟨rb, 0, none⟩), .agg #[.int .i64 x.job, .string ⟨⟨x.tn⟩⟩, .int .i64 x.pr]] w fun e w' => e = .returned (.int .i64 0) ∧ ∃ g cap, R1 w w' rb g cap x := by
  obtain ⟨j, t, p⟩ := x
  obtain ⟨j1, j2, p1, p2⟩ := ok_pr hx
  simp only [] at j1 j2 p1 p2
  have h1 : ¬ j < 1 := by omega
  have h2 : ¬ 100 < j := by omega
  have h3 : ¬ p < 0 := by omega
  have h4 : ¬ 100 < p := by omega
  have hlt := (Array.getElem?_eq_some_iff.1 hc.out).1
  have q0 := c1 hc.out
  have f0 := fz hc.out 0
  have X37 := rfind_zero (w.alloc (.cells #[.int .i64 j, .string ⟨⟨t⟩⟩, .int .i64 p] 56)) rb j (c1 (at_alloc hc.out))
  clear j1 j2 p1 p2 hx
  simp only []
  go_enter Try.func19, Try.ntmps19
  go_upto_region 5 with (go_at_call 37; refine X37.mono ?_; rintro e w1 ⟨rfl, h1⟩; obtain rfl := h1.symm)
  obtain ⟨i0, hi, hz0, hz1, hz2⟩ := info_parts info56
  have HI : Hid (Try.prog.info? 56 = some i0 ∧ i0.zero = some (.agg #[.int .i64 0, .string ⟨#[]⟩, .int .i64 0]) ∧ i0.size = 3 ∧ i0.bytes = 32) := ⟨hi, hz0, hz1, hz2⟩
  clear hi hz0 hz1 hz2 X37
  have O1 : Hid (((w.alloc (.cells #[.int .i64 j, .string ⟨⟨t⟩⟩, .int .i64 p] 56)).alloc (.cells #[.int .i64 j, .string ⟨⟨t⟩⟩, .int .i64 p] 56)).drew.ownsRow 0 56 3 (.slice none 0 0) 0 []) := World.ownsRow_nil _ _ _ _
  have HN : Hid (∀ i u, ([.int .i64 j, .string ⟨⟨t⟩⟩, .int .i64 p] : List Value)[i]? = some u → ((w.alloc (.cells #[.int .i64 j, .string ⟨⟨t⟩⟩, .int .i64 p] 56)).alloc (.cells #[.int .i64 j, .string ⟨⟨t⟩⟩, .int .i64 p] 56)).drew.cell? ((⟨w.heap.size + 1, 0, none⟩ : Addr).add i) = some u) := by
    refine World.news_of_block (cs := #[.int .i64 j, .string ⟨⟨t⟩⟩, .int .i64 p]) (t := 56) (fr := (0, 0)) ?_
    exact new1
  have H1 : Hid (∀ u ∈ ([.int .i64 j, .string ⟨⟨t⟩⟩, .int .i64 p] : List Value), u.oneCell' = true) := wC_one ⟨j, t, p⟩
  have HS : Hid (((w.alloc (.cells #[.int .i64 j, .string ⟨⟨t⟩⟩, .int .i64 p] 56)).alloc (.cells #[.int .i64 j, .string ⟨⟨t⟩⟩, .int .i64 p] 56)).drew.heap.size = w.heap.size + 1 + 1) := by
    refine (?_ : _ = _)
    simp
  have hne : rb ≠ w.heap.size := by omega
  go_cut [] from 29 to 38 (fun wx => ∃ g cap, Hid (R1 w wx rb g cap ⟨j, t, p⟩))
  case first =>
    go_region_law (refine step_append_lies _ rfl (.tmp 33) (.tmp 35) 27 rfl 0 56 i0 _ 3 32 Try.underlying27 HI.out.1 HI.out.2.1 HI.out.2.2.1 HI.out.2.2.2 rfl (by decide) (.slice none 0 0) 0 [] (by simp [Act.eval]) O1.out ⟨w.heap.size + 1, 0, none⟩ 1 1 [.int .i64 j, .string ⟨⟨t⟩⟩, .int .i64 p] (by simp [Act.eval]) rfl HN.out H1.out (by decide) (by unfold maxLen; omega) (by omega) (Nat.zero_le _) _ HS.out ?_; intro g cap w4 hown hgrow hat hlt4; obtain ⟨hw4, hpw⟩ := r1_mk (x := ⟨j, t, p⟩) hc.out hown hgrow hat; clear hown hgrow hat hlt4; have d0 := c1 hw4; have df := fz hw4 0; have HW : Hid (R1 w (w4.setCell ⟨rb, 0, none⟩ (.slice (some ⟨g, 0, none⟩) 1 cap)) rb g cap ⟨j, t, p⟩) := hpw; clear hpw hw4)
    all_goals (go_wp2_with fail; go_meet)
    all_goals exact ⟨_, _, HW⟩
  case rest =>
    obtain ⟨g, cap, HW⟩ := hcut
    clear O1 HN H1 HS HI q0 f0
    have HRB : Hid (rb < w.heap.size) := hlt
    have d0 := c1 HW.out.pc
    obtain ⟨b0, b1, b2⟩ := c3 (show wc.heap[w.heap.size]? = some (.cells #[.int .i64 j, .string ⟨⟨t⟩⟩, .int .i64 p] 56 (0, 0)) from HW.out.bx)
    obtain ⟨g', eg, hk⟩ := HW.out.row.at wC_len (i := 0) rfl
    obtain rfl : g = g' := by injection eg with eg; injection eg
    have y0 := hk 0 _ rfl
    have y1 := hk 1 _ rfl
    have y2 := hk 2 _ rfl
    simp only [Nat.zero_mul, Nat.zero_add] at y0 y1 y2
    have z0 : wc.frozen? ⟨g, 0, none⟩ = false := by
      rcases HW.out.row.2 with ⟨e, _⟩ | ⟨g', cap', cur, e, hb, hgg, _⟩
      · cases e
      · cases e; exact fz hgg 0
    have z1 : wc.frozen? ⟨g, 1, none⟩ = false := by
      rcases HW.out.row.2 with ⟨e, _⟩ | ⟨g', cap', cur, e, hb, hgg, _⟩
      · cases e
      · cases e; exact fz hgg 1
    have z2 : wc.frozen? ⟨g, 2, none⟩ = false := by
      rcases HW.out.row.2 with ⟨e, _⟩ | ⟨g', cap', cur, e, hb, hgg, _⟩
      · cases e
      · cases e; exact fz hgg 2
    clear hk eg
    go_wp2_with fail
    refine wp_loop_rounds 1 ?_
    rw [rounds_succ]
    go_wp2_with fail
    go_region
    all_goals go_wp2_with fail
    all_goals go_region
    all_goals go_wp2_with fail
    all_goals go_ret
    all_goals refine ⟨rfl, g, cap, ?_⟩
    all_goals first | exact (HW.out.again HRB.out).drew.drew | exact (HW.out.again HRB.out).drew | exact HW.out.again HRB.out
end Go.Proofs.Ythlbeofonbbbdaa
