/-
  The reference's Same.
-/
import Derived.Test.YtoiopplhphllhaaSk
namespace Go.Proofs.Ytoiopplhphllhaa
open Go.RowKit Go.Maps

theorem cellH {V W : World} {a : Addr} {x : Value} (h : V.heap = W.heap) (e : W.cell? a = some x) : V.cell? a = some x := (World.cell?_of_block (a := a) (by rw [h])).trans e
set_option maxHeartbeats 1000000 in
theorem pts_num (n1 n2 : Int) (hn : (n1 != n2) = true) (q1 q2 : Option Addr) (m1 m2 c1 c2 : Nat) (w : World) :
    Calls Try.prog 34 #[.agg #[.bool true, .int .i64 n1, .slice q1 m1 c1], .agg #[.bool true, .int .i64 n2, .slice q2 m2 c2]] w fun e w' => e = .returned (.bool false) ∧ Below w.heap.size w w' := by
  go_enter Try.func34, Try.ntmps34
  go_wp2_with fail
  go_ret
  exact ⟨rfl, ((Below.refl _ w).alloc (Nat.le_refl _) _).alloc (by simp) _⟩
set_option maxHeartbeats 1000000 in
theorem pts_len (n : Int) (q1 q2 : Option Addr) (m1 m2 c1 c2 : Nat) (hm : ((m1 : Int) != (m2 : Int)) = true) (w : World) :
    Calls Try.prog 34 #[.agg #[.bool true, .int .i64 n, .slice q1 m1 c1], .agg #[.bool true, .int .i64 n, .slice q2 m2 c2]] w fun e w' => e = .returned (.bool false) ∧ Below w.heap.size w w' := by
  go_enter Try.func34, Try.ntmps34
  go_wp2_with fail
  go_ret
  exact ⟨rfl, ((Below.refl _ w).alloc (Nat.le_refl _) _).alloc (by simp) _⟩
set_option maxHeartbeats 400000 in
set_option maxRecDepth 100000 in
theorem pts_some (n : Int) (l1 l2 : List RC) (q1 q2 : Option Addr) (m c1 c2 : Nat) (w : World) (hm : m < 1152921504606846976) (h1 : Hid (l1.length = m)) (h2 : Hid (l2.length = m)) (H1 : Hid (Pcs w q1 l1)) (H2 : Hid (Pcs w q2 l2)) (hl : Hid (∀ r ∈ l1, r.b.length < 1152921504606846976)) :
    Calls Try.prog 34 #[.agg #[.bool true, .int .i64 n, .slice q1 m c1], .agg #[.bool true, .int .i64 n, .slice q2 m c2]] w fun e w' => e = .returned (.bool (decide (l1.map RC.b = l2.map RC.b))) ∧ Below w.heap.size w w' := by
  go_enter Try.func34, Try.ntmps34
  go_wp2_with fail
  have hA : ((w.alloc (.cells #[.bool true, .int .i64 n, .slice q1 m c1] 29)).alloc (.cells #[.bool true, .int .i64 n, .slice q2 m c2] 29)).heap[w.heap.size]? = some (.cells #[.bool true, .int .i64 n, .slice q1 m c1] 29 (0, 0)) := at_alloc new0
  have hB : ((w.alloc (.cells #[.bool true, .int .i64 n, .slice q1 m c1] 29)).alloc (.cells #[.bool true, .int .i64 n, .slice q2 m c2] 29)).heap[w.heap.size + 1]? = some (.cells #[.bool true, .int .i64 n, .slice q2 m c2] 29 (0, 0)) := by
    have := new0 (w := w.alloc (.cells #[.bool true, .int .i64 n, .slice q1 m c1] 29)) (o := .cells #[.bool true, .int .i64 n, .slice q2 m c2] 29)
    rwa [show (w.alloc (.cells #[.bool true, .int .i64 n, .slice q1 m c1] 29)).heap.size = w.heap.size + 1 by simp] at this
  have BW : Hid (Below w.heap.size w ((w.alloc (.cells #[.bool true, .int .i64 n, .slice q1 m c1] 29)).alloc (.cells #[.bool true, .int .i64 n, .slice q2 m c2] 29))) := ((Below.refl _ w).alloc (Nat.le_refl _) _).alloc (by simp) _
  generalize (w.alloc (.cells #[.bool true, .int .i64 n, .slice q1 m c1] 29)).alloc (.cells #[.bool true, .int .i64 n, .slice q2 m c2] 29) = W at *
  obtain ⟨a0, a1, a2⟩ := k3 hA
  obtain ⟨b0, b1, b2⟩ := k3 hB
  clear hA hB a0 a1 b0 b1
  have P1 : Hid (Pcs W q1 l1) := H1.out.keep BW.out
  have P2 : Hid (Pcs W q2 l2) := H2.out.keep BW.out
  go_loopw [5] (fun i wr => ∃ k : Nat, k ≤ m ∧ i = .int .i64 k ∧ (l1.map RC.b).take k = (l2.map RC.b).take k ∧ wr.heap = W.heap ∧ Below w.heap.size w wr) (fun i _ => m - (intOf i).toNat)
  case atStart => exact ⟨0, Nat.zero_le _, rfl, rfl, rfl, BW.out⟩
  case round =>
    obtain ⟨k, hk, rfl, hq, hV, hb⟩ := hrel
    have HV : Hid (wr.heap = W.heap) := hV
    have HB : Hid (Below w.heap.size w wr) := hb
    replace a2 := cellH hV a2
    replace b2 := cellH hV b2
    clear hV hb
    have HQ : Hid ((l1.map RC.b).take k = (l2.map RC.b).take k) := hq
    clear hq
    by_cases hlt : k < m
    · obtain ⟨r1, g1, o1, hr1, rfl, x1⟩ := P1.out.at (k := k) (by have := h1.out; omega)
      obtain ⟨r2, g2, o2, hr2, rfl, x2⟩ := P2.out.at (k := k) (by have := h2.out; omega)
      have hi : (k : Int) < (m : Int) := by omega
      replace x1 := cellH HV.out x1
      replace x2 := cellH HV.out x2
      have H50 : Hid (∀ i, Calls Try.prog 50 #[.slice r1.a r1.b.length r1.c, .slice r2.a r2.b.length r2.c] (wr.drewN i) fun e w' => e = .returned (.bool (decide (r1.b = r2.b))) ∧ ∃ j, w' = (wr.drewN i).drewN j) := fun i => same_q r1.b r2.b r1.a r2.a r1.c r2.c (wr.drewN i) (hl.out r1 (List.mem_of_getElem? hr1)) (lies_heap (P1.out.each r1 (List.mem_of_getElem? hr1)).1 (show (wr.drewN i).heap = W.heap from HV.out)) (lies_heap (P2.out.each r2 (List.mem_of_getElem? hr2)).1 (show (wr.drewN i).heap = W.heap from HV.out))
      have y1 : (l1.map RC.b)[k]? = some r1.b := by rw [List.getElem?_map, hr1]; rfl
      have y2 : (l2.map RC.b)[k]? = some r2.b := by rw [List.getElem?_map, hr2]; rfl
      by_cases hxy : r1.b = r2.b
      · have HN : Hid ((l1.map RC.b).take (k + 1) = (l2.map RC.b).take (k + 1)) := by
          obtain ⟨z1, e1⟩ := List.getElem?_eq_some_iff.1 y1
          obtain ⟨z2, e2⟩ := List.getElem?_eq_some_iff.1 y2
          refine (?_ : (l1.map RC.b).take (k + 1) = (l2.map RC.b).take (k + 1))
          rw [List.take_succ_eq_append_getElem z1, List.take_succ_eq_append_getElem z2, HQ.out, e1, e2, hxy]
        rw [decide_eq_true hxy] at H50
        clear hr1 hr2 y1 y2 hxy
        go_wp2_with fail
        go_quiet (first | (go_at_call 50; exact Calls.quiet_of (w := wr) (v := .bool true) (H50.out _)))
        go_wp2_with fail
        refine ⟨⟨k + 1, by omega, by go_num, HN.out, (show (wr.drewN _).heap = W.heap from HV.out), below_drewN HB.out _⟩, ?_⟩
        simp [intOf]; omega
      · have HF : Hid (decide (l1.map RC.b = l2.map RC.b) = false) := by
          refine (decide_eq_false fun h => hxy ?_ : decide (l1.map RC.b = l2.map RC.b) = false)
          rw [h, y2] at y1
          exact (Option.some.inj y1).symm
        rw [decide_eq_false hxy] at H50
        clear hr1 hr2 y1 y2 hxy
        go_wp2_with fail
        go_quiet (first | (go_at_call 50; exact Calls.quiet_of (w := wr) (v := .bool false) (H50.out _)))
        go_wp2_with fail
        go_ret
        exact ⟨ret_b HF.out.symm, below_drewN HB.out _⟩
    · have HT : Hid (decide (l1.map RC.b = l2.map RC.b) = true) := by
        refine (decide_eq_true ?_ : decide (l1.map RC.b = l2.map RC.b) = true)
        have := HQ.out
        rwa [List.take_of_length_le (by rw [List.length_map]; have := h1.out; omega), List.take_of_length_le (by rw [List.length_map]; have := h2.out; omega)] at this
      go_wp2_with fail
      go_ret
      exact ⟨ret_b HT.out.symm, HB.out⟩
end Go.Proofs.Ytoiopplhphllhaa
