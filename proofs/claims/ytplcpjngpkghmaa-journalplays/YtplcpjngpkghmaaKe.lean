/-
  The reference's log: Append onto none.
-/
import Derived.Test.YtplcpjngpkghmaaKd
namespace Go.Proofs.Ytplcpjngpkghmaa
open Go.RowKit Go.Maps

set_option maxHeartbeats 4000000 in
set_option maxRecDepth 100000 in
theorem rapp_nil {w : World} {B rb : Nat} {mb : Bool} {tr : Int} (h : Hid (RfAt w B rb ⟨[], 0, 0, 0, mb, tr, false⟩ (.slice none 0 0))) (hB : B ≤ w.heap.size) (b : List UInt8) (q : Option Addr) (n c : Nat) (hn : n ≤ 4080) (hb : Hid (b.length = n)) (hz : Hid (q = none → c = 0)) (hL : Hid (Lies w q b)) :
    Calls Try.prog 38 #[.pointer (some ⟨rb, 0, none⟩), .slice q n c] w fun e w' => e = .returned (.tuple #[.int .i64 0, .int .i64 0]) ∧ ∃ v' a c', RfAt w' B rb (RL.app ⟨[], 0, 0, 0, mb, tr, false⟩ ⟨b, a, c'⟩) v' ∧ Kp (· = rb) w w' ∧ ∀ k, RB rb v' (RL.app ⟨[], 0, 0, 0, mb, tr, false⟩ ⟨b, a, c'⟩) k → RB rb (.slice none 0 0) ⟨[], 0, 0, 0, mb, tr, false⟩ k ∨ w.heap.size ≤ k := by
  obtain ⟨e0, e1, e2, e3, e4, e5, e6⟩ := k7 h.out.cell
  have hn1 : (n : Int) ≤ 4080 := by omega
  simp only at e0 e1 e2 e3 e4 e5 e6
  rw [show ((0 : Nat) : Int) = 0 from rfl] at e1 e2 e3
  have a3 : IntKind.i64.wrap ((0 : Int) + 1) = 1 := by decide
  have a4 : IntKind.i64.wrap ((1 : Int) - 1) = 0 := by decide
  go_enter Try.func38, Try.ntmps38
  go_wp2_with (at_builtin; refine append_bytes rfl _ _ rfl w.heap.size (.slice none 0 0) [] b rfl (World.ownsRow_nil _ _ _ _) q c n rfl hb.out hz.out hL.out ?_ (Nat.le_refl _) ?_)
  · have := hb.out; simp; omega
  intro v1 w1 o1 b1
  obtain ⟨q1, c1, hv1, _⟩ := o1.shape
  rw [hb.out] at hv1
  subst hv1
  have O1 : Hid (Own w1 w.heap.size (.slice q1 n c1) b ∧ Below w.heap.size w w1) := ⟨o1, b1⟩
  have hc1 := at_below b1 (Nat.le_refl _) h.out.cell
  obtain ⟨y0, y1, y2, y3, y4, y5, y6⟩ := k7 hc1
  simp only at y0 y1 y2 y3 y4 y5 y6
  rw [show ((0 : Nat) : Int) = 0 from rfl] at y1 y2 y3
  have z0 := fz hc1 0
  have z2 := fz hc1 2
  have hrb1 : rb < w1.heap.size := block_lt_of_cell y0
  have hd1 : w1.drew.heap.size = w1.heap.size := rfl
  obtain ⟨i0, hi, hz0, hz1, hz2⟩ := info_parts info31
  have HI : Hid (Try.prog.info? 31 = some i0 ∧ i0.zero = some (.slice none 0 0) ∧ i0.size = 1 ∧ i0.bytes = 24) := ⟨hi, hz0, hz1, hz2⟩
  have HN : Hid (∀ j u, [Value.slice q1 n c1][j]? = some u → (w1.drew.alloc (.cells #[.slice q1 n c1] 31)).cell? ((⟨w1.heap.size, 0, none⟩ : Addr).add j) = some u) := World.news_of_block (cs := #[.slice q1 n c1]) (t := 31) (fr := (0, 0)) new0
  have HW : Hid (∀ g cap w7, w7.ownsRow (w1.drew.alloc (.cells #[.slice q1 n c1] 31)).heap.size 31 1 (.slice (some ⟨g, 0, none⟩) 1 cap) 1 ([] ++ [.slice q1 n c1]) → (w1.drew.alloc (.cells #[.slice q1 n c1] 31)).grownBy w7 none → w7.heap[rb]? = some (.cells #[.slice none 0 0, .int .i64 0, .int .i64 0, .int .i64 0, .bool mb, .int .i64 tr, .bool false] 40 (0, 0)) ∧ RfAt ((w7.setCell ⟨rb, 0, none⟩ (.slice (some ⟨g, 0, none⟩) 1 cap)).setCell ⟨rb, 2, none⟩ (.int .i64 1)) B rb (RL.app ⟨[], 0, 0, 0, mb, tr, false⟩ ⟨b, q1, c1⟩) (.slice (some ⟨g, 0, none⟩) 1 cap) ∧ Kp (· = rb) w ((w7.setCell ⟨rb, 0, none⟩ (.slice (some ⟨g, 0, none⟩) 1 cap)).setCell ⟨rb, 2, none⟩ (.int .i64 1)) ∧ ∀ k, RB rb (.slice (some ⟨g, 0, none⟩) 1 cap) (RL.app ⟨[], 0, 0, 0, mb, tr, false⟩ ⟨b, q1, c1⟩) k → RB rb (.slice none 0 0) ⟨[], 0, 0, 0, mb, tr, false⟩ k ∨ w.heap.size ≤ k) := fun g cap w7 k1 k2 => rapW h.out hB hb.out hn (show 0 < 1000000 by omega) O1.out.1 O1.out.2 k1 k2
  clear o1 b1 hc1 hi hz0 hz1 hz2 e0 e1 e2 e3 e4 e5 e6
  go_wp2_with fail
  go_region_law (refine step_append_grows rfl (.tmp 30) (.tmp 32) 38 rfl 31 i0 _ 1 24 Try.underlying38 HI.out.1 HI.out.2.1 HI.out.2.2.1 HI.out.2.2.2 rfl (by decide) none 0 0 [] (by simp [Act.eval, Act.put]) (fun _ => ⟨rfl, rfl⟩) rfl nofun ⟨w1.heap.size, 0, none⟩ 1 1 [.slice q1 n c1] (by simp [Act.eval, Act.put]) rfl HN.out (fun u hu => by simp at hu; subst hu; rfl) (by omega) (by unfold maxLen; omega) (by omega) ?_; intro v7 w7 hown hgrow; obtain ⟨g, cap, hv7, _⟩ := hown.form (by omega); subst hv7; have HP : Hid (RfAt ((w7.setCell ⟨rb, 0, none⟩ (.slice (some ⟨g, 0, none⟩) 1 cap)).setCell ⟨rb, 2, none⟩ (.int .i64 1)) B rb (RL.app ⟨[], 0, 0, 0, mb, tr, false⟩ ⟨b, q1, c1⟩) (.slice (some ⟨g, 0, none⟩) 1 cap) ∧ Kp (· = rb) w ((w7.setCell ⟨rb, 0, none⟩ (.slice (some ⟨g, 0, none⟩) 1 cap)).setCell ⟨rb, 2, none⟩ (.int .i64 1)) ∧ ∀ k, RB rb (.slice (some ⟨g, 0, none⟩) 1 cap) (RL.app ⟨[], 0, 0, 0, mb, tr, false⟩ ⟨b, q1, c1⟩) k → RB rb (.slice none 0 0) ⟨[], 0, 0, 0, mb, tr, false⟩ k ∨ w.heap.size ≤ k) := (HW.out g cap w7 hown hgrow).2; have hw7 := (HW.out g cap w7 hown hgrow).1; clear hown hgrow; obtain ⟨d0, d1, d2, d3, d4, d5, d6⟩ := k7 hw7; have df0 := fz hw7 0; have df2 := fz hw7 2; clear hw7)
  all_goals go_wp2_with fail
  all_goals go_ret2
  all_goals exact ⟨rfl, _, q1, c1, HP.out.1, HP.out.2.1, HP.out.2.2⟩
end Go.Proofs.Ytplcpjngpkghmaa
