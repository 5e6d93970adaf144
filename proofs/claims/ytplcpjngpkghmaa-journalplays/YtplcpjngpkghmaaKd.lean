/-
  The reference's log: Append.
-/
import Derived.Test.YtplcpjngpkghmaaKc
import Derived.Deep.RegionLawGrows
namespace Go.Proofs.Ytplcpjngpkghmaa
open Go.RowKit Go.Maps

def RL.app (R : RL) (r : RC) : RL := { R with all := R.all.take R.next ++ [r], next := R.next + 1 }
set_option maxHeartbeats 400000 in
theorem rapp_over {w : World} {B rb : Nat} {R : RL} {v : Value} (h : Hid (RfAt w B rb R v)) (ho : R.ov = true) (u : Value) :
    Calls Try.prog 38 #[.pointer (some ⟨rb, 0, none⟩), u] w fun e w' => e = .returned (.tuple #[.int .i64 0, .int .i64 11]) ∧ w' = w := by
  obtain ⟨e0, e1, e2, e3, e4, e5, e6⟩ := k7 h.out.cell
  rw [ho] at e6
  go_enter Try.func38, Try.ntmps38
  go_wp2_with fail
  go_ret2
  exact ⟨rfl, rfl⟩
set_option maxHeartbeats 400000 in
theorem rapp_long {w : World} {B rb : Nat} {R : RL} {v : Value} (h : Hid (RfAt w B rb R v)) (ho : R.ov = false) (q : Option Addr) (n c : Nat) (hn : (4080 : Int) < n) :
    Calls Try.prog 38 #[.pointer (some ⟨rb, 0, none⟩), .slice q n c] w fun e w' => e = .returned (.tuple #[.int .i64 0, .int .i64 1]) ∧ w' = w := by
  obtain ⟨e0, e1, e2, e3, e4, e5, e6⟩ := k7 h.out.cell
  rw [ho] at e6
  go_enter Try.func38, Try.ntmps38
  go_wp2_with fail
  go_ret2
  exact ⟨rfl, rfl⟩
theorem rapW {w w1 w7 : World} {B rb : Nat} {R : RL} {v : Value} {b : List UInt8} {q1 : Option Addr} {n c1 g cap : Nat} (h : RfAt w B rb R v) (hB : B ≤ w.heap.size) (hb : b.length = n) (h80 : n ≤ 4080) (hl : R.next < 1000000) (o1 : Own w1 w.heap.size (.slice q1 n c1) b) (b1 : Below w.heap.size w w1)
    (own : w7.ownsRow (w1.drew.alloc (.cells #[.slice q1 n c1] 31)).heap.size 31 1 (.slice (some ⟨g, 0, none⟩) (R.next + 1) cap) (R.next + 1) ((R.all.take R.next).map RC.v ++ [.slice q1 n c1])) (gr : (w1.drew.alloc (.cells #[.slice q1 n c1] 31)).grownBy w7 none) :
    w7.heap[rb]? = some (.cells #[v, .int .i64 R.first, .int .i64 R.next, .int .i64 R.syn, .bool R.mb, .int .i64 R.tr, .bool R.ov] 40 (0, 0)) ∧ RfAt ((w7.setCell ⟨rb, 0, none⟩ (.slice (some ⟨g, 0, none⟩) (R.next + 1) cap)).setCell ⟨rb, 2, none⟩ (.int .i64 ((R.next : Int) + 1))) B rb (R.app ⟨b, q1, c1⟩) (.slice (some ⟨g, 0, none⟩) (R.next + 1) cap) ∧ Kp (· = rb) w ((w7.setCell ⟨rb, 0, none⟩ (.slice (some ⟨g, 0, none⟩) (R.next + 1) cap)).setCell ⟨rb, 2, none⟩ (.int .i64 ((R.next : Int) + 1))) ∧ ∀ k, RB rb (.slice (some ⟨g, 0, none⟩) (R.next + 1) cap) (R.app ⟨b, q1, c1⟩) k → RB rb v R k ∨ w.heap.size ≤ k := by
  subst hb
  have hsz : (w1.drew.alloc (.cells #[.slice q1 b.length c1] 31)).heap.size = w1.heap.size + 1 := by
    have hd : w1.drew.heap.size = w1.heap.size := rfl
    rw [← hd]
    simp
  have hw1 := b1.size
  have bb : Below w.heap.size w (w1.drew.alloc (.cells #[.slice q1 b.length c1] 31)) := (b1.trans (Below.refl _ w1).drew).alloc (show w.heap.size ≤ w1.heap.size from hw1) _
  have k7' : Kp (· = rb) w w7 := (Kp.of_below bb).trans (Kp.of_grown (S := (· = rb)) gr nofun) fun _ _ e => e
  have hold : ∀ k, k < w.heap.size → w7.heap[k]? = w.heap[k]? := fun k hk => (gr.block k (by omega) nofun).trans (bb.block k hk)
  have hc7 := (hold rb (h.lt (.inl rfl)).2).trans h.cell
  have hgl := World.ownsRow.lt own g rfl
  have hrb := (h.lt (g := rb) (.inl rfl)).2
  have hset : ∀ k, k ≠ rb → ((w7.setCell ⟨rb, 0, none⟩ (.slice (some ⟨g, 0, none⟩) (R.next + 1) cap)).setCell ⟨rb, 2, none⟩ (.int .i64 ((R.next : Int) + 1))).heap[k]? = w7.heap[k]? := fun k hk => (Below.heap_setCell _ _ _ _ hk).trans (Below.heap_setCell _ _ _ _ hk)
  have htk : (R.all.take R.next).length = R.next := by rw [List.length_take]; have := h.nx; omega
  have hlen : (R.all.take R.next ++ [(⟨b, q1, c1⟩ : RC)]).length = R.next + 1 := by rw [List.length_append, htk]; rfl
  have h1lt := World.ownsRow.lt o1
  refine ⟨hc7, ⟨setB (setB hc7 _) _, h.lo, ⟨?_, fun r hr => ?_⟩, ?_, ?_, ?_, ?_, fun r hr => ?_⟩, (k7'.put 0 _).put 2 _, fun k hk => ?_⟩
  · show World.ownsRow _ B 31 1 _ (R.all.take R.next ++ [(⟨b, q1, c1⟩ : RC)]).length ((R.all.take R.next ++ [(⟨b, q1, c1⟩ : RC)]).map RC.v)
    rw [hlen, List.map_append]
    refine ownsKeep (w := w7) ⟨own.1, ?_⟩ fun g' hg' => hset g' ?_
    · rcases own.2 with hn | ⟨g1, cap1, cur, e, hb1, rest⟩
      · exact .inl hn
      · exact .inr ⟨g1, cap1, cur, e, by omega, rest⟩
    · have : g = g' := by simpa [Value.ownBlock] using hg'
      omega
  · rcases List.mem_append.1 hr with hr | hr
    · have hr' := List.mem_of_mem_take hr
      refine (h.ps.each r hr').keepAt fun g' hg' => ?_
      exact (hset g' (h.ne (.inr ⟨r, hr', hg'⟩))).trans (hold g' (World.ownsRow.lt (h.ps.each r hr') g' hg').2)
    · simp only [List.mem_singleton] at hr
      subst hr
      refine (Own.low (Own.keepAt (w1 := w7) o1 fun g' hg' => ?_) hB).keepAt fun g' hg' => hset g' ?_
      · refine (gr.block g' (by have := (h1lt g' hg').2; omega) nofun).trans ?_
        exact ((Below.refl _ w1).drew.alloc (Nat.le_refl _) _).block g' (h1lt g' hg').2
      · have := (h1lt g' hg').1
        omega
  · show R.next + 1 ≤ (R.all.take R.next ++ [(⟨b, q1, c1⟩ : RC)]).length
    omega
  · show R.first ≤ R.next + 1
    have := h.fx
    omega
  · show R.syn ≤ R.next + 1
    have := h.sx
    omega
  · show (R.all.take R.next ++ [(⟨b, q1, c1⟩ : RC)]).length ≤ 1000000
    omega
  · rcases List.mem_append.1 hr with hr | hr
    · exact h.h80 r (List.mem_of_mem_take hr)
    · simp only [List.mem_singleton] at hr
      subst hr
      exact h80
  · rcases hk with rfl | hk | ⟨r, hr, hk⟩
    · exact .inl (.inl rfl)
    · have : g = k := by simpa [Value.ownBlock] using hk
      exact .inr (by omega)
    · rcases List.mem_append.1 hr with hr | hr
      · exact .inl (.inr (.inr ⟨r, List.mem_of_mem_take hr, hk⟩))
      · simp only [List.mem_singleton] at hr
        subst hr
        exact .inr (h1lt k hk).1
set_option maxHeartbeats 4000000 in
set_option maxRecDepth 100000 in
theorem rapp_some {w : World} {B rb g0 cap0 : Nat} {R : RL} (h : Hid (RfAt w B rb R (.slice (some ⟨g0, 0, none⟩) R.all.length cap0))) (hB : B ≤ w.heap.size) (ho : R.ov = false) (b : List UInt8) (q : Option Addr) (n c : Nat) (hn : n ≤ 4080) (hb : Hid (b.length = n)) (hz : Hid (q = none → c = 0)) (hL : Hid (Lies w q b)) (hl : R.next < 1000000) :
    Calls Try.prog 38 #[.pointer (some ⟨rb, 0, none⟩), .slice q n c] w fun e w' => e = .returned (.tuple #[.int .i64 R.next, .int .i64 0]) ∧ ∃ v' a c', RfAt w' B rb (R.app ⟨b, a, c'⟩) v' ∧ Kp (· = rb) w w' ∧ ∀ k, RB rb v' (R.app ⟨b, a, c'⟩) k → RB rb (.slice (some ⟨g0, 0, none⟩) R.all.length cap0) R k ∨ w.heap.size ≤ k := by
  obtain ⟨e0, e1, e2, e3, e4, e5, e6⟩ := k7 h.out.cell
  rw [ho] at e6
  have hn1 : (n : Int) ≤ 4080 := by omega
  have hcap : R.all.length ≤ cap0 ∧ cap0 ≤ maxLen := by
    rcases h.out.ps.row.2 with ⟨e, _⟩ | ⟨g, cap, cur, e, _, _, h1, h2, _⟩
    · cases e
    · cases e; exact ⟨h1, h2⟩
  obtain ⟨hcap1, hcap2⟩ := hcap
  unfold maxLen at hcap2
  have hnx := h.out.nx
  have a1 : (R.next : Int) ≤ cap0 := by omega
  have a2 : (0 : Int) ≤ R.next := by omega
  have a3 : IntKind.i64.wrap ((R.next : Int) + 1) = R.next + 1 := by rw [IntKind.wrap_i64]; omega
  have a4 : IntKind.i64.wrap ((R.next : Int) + 1 - 1) = R.next := by rw [IntKind.wrap_i64]; omega
  have a5 : R.next ≤ cap0 := by omega
  go_enter Try.func38, Try.ntmps38
  go_wp2_with (at_builtin; refine append_bytes rfl _ _ rfl w.heap.size (.slice none 0 0) [] b rfl (World.ownsRow_nil _ _ _ _) q c n rfl hb.out hz.out hL.out ?_ (Nat.le_refl _) ?_)
  · have := hb.out; simp; omega
  intro v1 w1 o1 b1
  obtain ⟨q1, c1, hv1, _⟩ := o1.shape
  rw [hb.out] at hv1
  subst hv1
  have O1 : Hid (Own w1 w.heap.size (.slice q1 n c1) b ∧ Below w.heap.size w w1) := ⟨o1, b1⟩
  have hc1 := at_below b1 (Nat.le_refl _) h.out.cell
  obtain ⟨y0, y1, y2, y3, y4, y5, y6⟩ := k7 hc1
  have z0 := fz hc1 0
  have z2 := fz hc1 2
  have hrb1 : rb < w1.heap.size := block_lt_of_cell y0
  have hd1 : w1.drew.heap.size = w1.heap.size := rfl
  obtain ⟨i0, hi, hz0, hz1, hz2⟩ := info_parts info31
  have HI : Hid (Try.prog.info? 31 = some i0 ∧ i0.zero = some (.slice none 0 0) ∧ i0.size = 1 ∧ i0.bytes = 24) := ⟨hi, hz0, hz1, hz2⟩
  have HO : Hid (∀ j u, ((R.all.take R.next).map RC.v)[j]? = some u → (w1.drew.alloc (.cells #[.slice q1 n c1] 31)).cell? ((⟨g0, 0, none⟩ : Addr).add j) = some u) := by
    intro j u hu
    have hu' : (R.all.map RC.v)[j]? = some u := by
      rw [List.map_take, List.getElem?_take] at hu
      split at hu
      · exact hu
      · cases hu
    have hc := World.ownsRow.cells h.out.ps.row (g := g0) rfl j u hu'
    have hg0 := (World.ownsRow.lt h.out.ps.row g0 rfl).2
    have bb : Below w.heap.size w (w1.drew.alloc (.cells #[.slice q1 n c1] 31)) := (b1.trans (Below.refl _ w1).drew).alloc (show w.heap.size ≤ w1.heap.size from b1.size) _
    rw [Addr.add_lit] at hc ⊢
    rw [World.cell?_of_block (w := w)]
    · exact hc
    · exact bb.block g0 hg0
  have HN : Hid (∀ j u, [Value.slice q1 n c1][j]? = some u → (w1.drew.alloc (.cells #[.slice q1 n c1] 31)).cell? ((⟨w1.heap.size, 0, none⟩ : Addr).add j) = some u) := World.news_of_block (cs := #[.slice q1 n c1]) (t := 31) (fr := (0, 0)) new0
  have HLn : Hid (((R.all.take R.next).map RC.v).length = R.next * 1) := by
    show _ = _
    rw [List.length_map, List.length_take]; omega
  have HW : Hid (∀ g cap w7, w7.ownsRow (w1.drew.alloc (.cells #[.slice q1 n c1] 31)).heap.size 31 1 (.slice (some ⟨g, 0, none⟩) (R.next + 1) cap) (R.next + 1) ((R.all.take R.next).map RC.v ++ [.slice q1 n c1]) → (w1.drew.alloc (.cells #[.slice q1 n c1] 31)).grownBy w7 none → w7.heap[rb]? = some (.cells #[.slice (some ⟨g0, 0, none⟩) R.all.length cap0, .int .i64 R.first, .int .i64 R.next, .int .i64 R.syn, .bool R.mb, .int .i64 R.tr, .bool R.ov] 40 (0, 0)) ∧ RfAt ((w7.setCell ⟨rb, 0, none⟩ (.slice (some ⟨g, 0, none⟩) (R.next + 1) cap)).setCell ⟨rb, 2, none⟩ (.int .i64 ((R.next : Int) + 1))) B rb (R.app ⟨b, q1, c1⟩) (.slice (some ⟨g, 0, none⟩) (R.next + 1) cap) ∧ Kp (· = rb) w ((w7.setCell ⟨rb, 0, none⟩ (.slice (some ⟨g, 0, none⟩) (R.next + 1) cap)).setCell ⟨rb, 2, none⟩ (.int .i64 ((R.next : Int) + 1))) ∧ ∀ k, RB rb (.slice (some ⟨g, 0, none⟩) (R.next + 1) cap) (R.app ⟨b, q1, c1⟩) k → RB rb (.slice (some ⟨g0, 0, none⟩) R.all.length cap0) R k ∨ w.heap.size ≤ k) := fun g cap w7 k1 k2 => rapW h.out hB hb.out hn hl O1.out.1 O1.out.2 k1 k2
  clear o1 b1 hc1 hi hz0 hz1 hz2 e0 e1 e2 e3 e4 e5 e6 hcap2 hcap1
  go_wp2_with fail
  go_region_law (refine step_append_grows rfl (.tmp 30) (.tmp 32) 38 rfl 31 i0 _ 1 24 Try.underlying38 HI.out.1 HI.out.2.1 HI.out.2.2.1 HI.out.2.2.2 rfl (by decide) (some ⟨g0, 0, none⟩) R.next R.next ((R.all.take R.next).map RC.v) (by simp [Act.eval, Act.put]) nofun HLn.out (fun _ e j u hu => by cases e; exact HO.out j u hu) ⟨w1.heap.size, 0, none⟩ 1 1 [.slice q1 n c1] (by simp [Act.eval, Act.put]) rfl HN.out (fun u hu => by simp at hu; subst hu; rfl) (by omega) (by unfold maxLen; omega) (by omega) ?_; intro v7 w7 hown hgrow; obtain ⟨g, cap, hv7, _⟩ := hown.form (by omega); subst hv7; have HP : Hid (RfAt ((w7.setCell ⟨rb, 0, none⟩ (.slice (some ⟨g, 0, none⟩) (R.next + 1) cap)).setCell ⟨rb, 2, none⟩ (.int .i64 ((R.next : Int) + 1))) B rb (R.app ⟨b, q1, c1⟩) (.slice (some ⟨g, 0, none⟩) (R.next + 1) cap) ∧ Kp (· = rb) w ((w7.setCell ⟨rb, 0, none⟩ (.slice (some ⟨g, 0, none⟩) (R.next + 1) cap)).setCell ⟨rb, 2, none⟩ (.int .i64 ((R.next : Int) + 1))) ∧ ∀ k, RB rb (.slice (some ⟨g, 0, none⟩) (R.next + 1) cap) (R.app ⟨b, q1, c1⟩) k → RB rb (.slice (some ⟨g0, 0, none⟩) R.all.length cap0) R k ∨ w.heap.size ≤ k) := (HW.out g cap w7 hown hgrow).2; have hw7 := (HW.out g cap w7 hown hgrow).1; clear hown hgrow; obtain ⟨d0, d1, d2, d3, d4, d5, d6⟩ := k7 hw7; have df0 := fz hw7 0; have df2 := fz hw7 2; clear hw7)
  all_goals go_wp2_with fail
  all_goals go_ret2
  all_goals exact ⟨rfl, _, q1, c1, HP.out.1, HP.out.2.1, HP.out.2.2⟩
end Go.Proofs.Ytplcpjngpkghmaa
