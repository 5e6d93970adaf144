/-
  The document's queue: List; same.
-/
import Derived.Test.YthlbeofonbbbdaaRb
import Derived.DeepKeys
import Derived.Laws.StructEq
namespace Go.Proofs.Ythlbeofonbbbdaa
open Go.RowKit Go.Maps Go.WideMaps

set_option maxHeartbeats 1000000 in
set_option maxRecDepth 100000 in
theorem rlist_any (w : World) (rb n c : Nat) (q : Option Addr) (D : List J) (t : List UInt8) (hc : Hid (w.heap[rb]? = some (.cells #[.slice q n c] 29 (0, 0)))) (hr : Hid (RRow 0 w (.slice q n c) D)) (hn : Hid (D.length ≤ 1000000)) :
    Calls Try.prog 22 #[.pointer (some ⟨rb, 0, none⟩), .string ⟨⟨t⟩⟩] w fun e w' => ∃ p c', e = .returned (.slice p (ofT t D).length c') ∧ Hid (RRow w.heap.size w' (.slice p (ofT t D).length c') (ofT t D) ∧ Below w.heap.size w w') := by
  have hnl : Hid (n = D.length) := hr.out.len
  have hlt := (Array.getElem?_eq_some_iff.1 hc.out).1
  have hn6 : n ≤ 1000000 := by have := hnl.out; have := hn.out; omega
  go_enter Try.func22, Try.ntmps22
  go_wp2_with fail
  go_loopw [5, 6] (fun v x wr => ∃ (k m : Nat) (p : Option Addr) (c' : Nat), v = .slice p m c' ∧ x = .int .i64 k ∧ k ≤ n ∧ Hid (m = (ofT t (D.take k)).length ∧ m ≤ k ∧ RRow w.heap.size wr (.slice p m c') (ofT t (D.take k)) ∧ Below w.heap.size w wr)) (fun _ x _ => n - (intOf x).toNat)
  case atStart => exact ⟨0, 0, none, 0, rfl, rfl, Nat.zero_le _, rfl, Nat.le_refl _, GRow.nil _ _ _ _ _, Below.refl _ _⟩
  case round =>
    obtain ⟨k, m, p, c', rfl, rfl, hk, HI⟩ := hrel
    have e0 := c1 (at_below HI.out.2.2.2 (Nat.le_refl _) hc.out)
    by_cases hkn : k < n
    · obtain ⟨a, ha⟩ : ∃ a, D[k]? = some a := ⟨_, List.getElem?_eq_getElem (by have := hnl.out; omega)⟩
      obtain ⟨g, rfl, hg⟩ := hr.out.at wC_len ha
      have y0 := keep1c' HI.out.2.2.2 (hg 0 _ rfl)
      have y1 := keep1c' HI.out.2.2.2 (hg 1 _ rfl)
      have y2 := keep1c' HI.out.2.2.2 (hg 2 _ rfl)
      simp only [Nat.add_zero] at y0 y1 y2
      have hk1 : (k : Int) < (n : Int) := by omega
      have hk2 : decide ((k : Int) < (n : Int)) = true := decide_eq_true hk1
      by_cases hT : a.tn = t
      · have HT : Hid (ofT t (D.take k) ++ [a] = ofT t (D.take (k + 1))) := by
          show _ = _
          unfold ofT
          rw [List.take_add_one, ha, List.filter_append]
          simp [hT]
        have O1 : Hid (RRow w.heap.size (wr.alloc (.cells #[.int .i64 a.job, .string ⟨⟨a.tn⟩⟩, .int .i64 a.pr] 56)) (.slice p m c') (ofT t (D.take k))) := HI.out.2.2.1.below ((Below.refl _ wr).alloc (Nat.le_refl _) _)
        have Z1 : Hid (w.heap.size ≤ (wr.alloc (.cells #[.int .i64 a.job, .string ⟨⟨a.tn⟩⟩, .int .i64 a.pr] 56)).heap.size) := by have := HI.out.2.2.2.size; show _ ≤ _; simp; omega
        have R1 : Hid (RowV (wr.alloc (.cells #[.int .i64 a.job, .string ⟨⟨a.tn⟩⟩, .int .i64 a.pr] 56)) wr.heap.size 0 ([a].flatMap wC)) := row_one new0 rfl
        have hm := HI.out.2.1
        have e9 : Hid (m + 1 ≤ maxLen) := by show _ ≤ _; unfold maxLen; omega
        have e8 : Hid ((m + 1) * 32 ≤ 140737488355328) := by show _ ≤ _; omega
        have hT4 : (a.tn == t) = true := by simp [hT]
        have BW : Hid (Below w.heap.size w (wr.alloc (.cells #[.int .i64 a.job, .string ⟨⟨a.tn⟩⟩, .int .i64 a.pr] 56)) ∧ m = (ofT t (D.take k)).length) := ⟨HI.out.2.2.2.alloc HI.out.2.2.2.size _, HI.out.1⟩
        clear ha hg HI hk hT
        obtain ⟨aj, atn, ap⟩ := a
        simp only [] at y0 y1 y2 O1 Z1 R1 BW hT4
        go_wp2_with (first
          | (at_builtin; refine append_g (B := w.heap.size) wC_len wC_one Try.underlying27 info56 rfl (by decide) rfl _ _ rfl p m c' _ rfl O1.out Z1.out wr.heap.size 0 1 1 [⟨aj, atn, ap⟩] rfl rfl R1.out e9.out e8.out ?_; intro p3 c3 w3 hr3 hb3)
          | go_in)
        rw [HT.out] at hr3
        exact ⟨⟨k + 1, m + 1, p3, c3, rfl, by simp, hkn, hr3.len, by omega, hr3, BW.out.1.trans hb3⟩, by simp [intOf]; omega⟩
      · have hT4 : (a.tn == t) = false := beq_eq_false_iff_ne.2 hT
        have HT : Hid (ofT t (D.take k) = ofT t (D.take (k + 1))) := by
          show _ = _
          unfold ofT
          rw [List.take_add_one, ha, List.filter_append]
          simp [hT]
        clear ha hg hT
        obtain ⟨aj, atn, ap⟩ := a
        simp only [] at y0 y1 y2 hT4
        go_wp2_with fail
        exact ⟨⟨k + 1, m, p, c', rfl, by simp, hkn, by rw [← HT.out]; exact HI.out.1, by have := HI.out.2.1; omega, by rw [← HT.out]; exact HI.out.2.2.1, HI.out.2.2.2⟩, by simp [intOf]; omega⟩
    · have hk1 : ¬ (k : Int) < (n : Int) := by omega
      have hk2 : decide ((k : Int) < (n : Int)) = false := decide_eq_false hk1
      have hF : Hid (RRow w.heap.size wr (.slice p m c') (ofT t D) ∧ Below w.heap.size w wr ∧ m = (ofT t D).length) := by
        have e1 : D.take k = D := List.take_of_length_le (by have := hnl.out; omega)
        have h1 := HI.out.2.2.1
        have h2 := HI.out.1
        rw [e1] at h1 h2
        exact ⟨h1, HI.out.2.2.2, h2⟩
      clear HI hk
      go_wp2_with fail
      go_ret
      refine ⟨p, c', by rw [← hF.out.2.2]; rfl, ?_, hF.out.2.1⟩
      rw [← hF.out.2.2]
      exact hF.out.1
theorem prt0 (x y z : Value) (w : World) : (part 2 #[x, y, z] 0).run Try.prog w = .ok x w := by kernel_rfl
theorem prt1 (x y z : Value) (w : World) : (part 9 #[x, y, z] 1).run Try.prog w = .ok y w := by kernel_rfl
theorem prt2 (x y z : Value) (w : World) : (part 2 #[x, y, z] 2).run Try.prog w = .ok z w := by kernel_rfl
set_option maxRecDepth 100000 in
theorem eq56 (j p : Int) (s : ByteArray) (w : World) : (Op.equalIn 10000 56 (.agg #[.int .i64 j, .string s, .int .i64 p]) (.agg #[.int .i64 j, .string s, .int .i64 p])).run Try.prog w = .ok true w := by
  have eqi (a : Int) (w : World) : (Op.equalIn 9999 2 (.int .i64 a) (.int .i64 a)).run Try.prog w = .ok (a == a) w := run_equalIn_int w 9998 2 .i64 .i64 a a Try.underlying2
  have eqs (w : World) : (Op.equalIn 9999 9 (.string s) (.string s)).run Try.prog w = .ok (s.toList == s.toList) w := run_equalIn_string w 9998 9 s s Try.underlying9
  rw [run_equalIn_struct w 9999 56 _ _ Try.underlying56 (by kernel_rfl)]
  simp [Program.fieldsOf, Try.underlying56, Op.eqFields, prt0, prt1, prt2, eqi, eqs]
set_option maxHeartbeats 1000000 in
set_option maxRecDepth 100000 in
theorem same_any (w : World) (n c1' c2' b1 b2 : Nat) (q1 q2 : Option Addr) (L : List J) (h1 : Hid (WRow b1 w (.slice q1 n c1') L)) (h2 : Hid (RRow b2 w (.slice q2 n c2') L)) (hn : n ≤ 1000000) :
    Calls Try.prog 21 #[.slice q1 n c1', .slice q2 n c2'] w fun e w' => e = .returned (.bool true) ∧ Hid (Below w.heap.size w w') := by
  have hl : Hid (L.length = n) := h1.out.len.symm
  have HP : Hid (∀ (w : World) (j p : Int) (s : ByteArray), Calls Try.prog 20 #[.agg #[.int .i64 j, .string s, .int .i64 p]] w fun e w' => e = .returned (.agg #[.int .i64 j, .string s, .int .i64 p]) ∧ Hid (Below w.heap.size w w')) := fun w j p s => plain_any w j p s
  go_enter Try.func21, Try.ntmps21
  go_wp2_with fail
  go_loopw [5] (fun x wr => ∃ k : Nat, x = .int .i64 k ∧ k ≤ n ∧ Hid (Below w.heap.size w wr)) (fun x _ => n - (intOf x).toNat)
  case atStart => exact ⟨0, rfl, Nat.zero_le _, Below.refl _ _⟩
  case round =>
    obtain ⟨k, rfl, hk, HI⟩ := hrel
    by_cases hkn : k < n
    · obtain ⟨a, ha⟩ : ∃ a, L[k]? = some a := ⟨_, List.getElem?_eq_getElem (by have := hl.out; omega)⟩
      obtain ⟨g1, rfl, hg1⟩ := h1.out.at wC_len ha
      obtain ⟨g2, rfl, hg2⟩ := h2.out.at wC_len ha
      have SS : Hid (∀ W, Below w.heap.size w W → W.cell? ⟨g1, k * 3, none⟩ = some (.int .i64 a.job) ∧ W.cell? ⟨g1, k * 3 + 1, none⟩ = some (.string ⟨⟨a.tn⟩⟩) ∧ W.cell? ⟨g1, k * 3 + 2, none⟩ = some (.int .i64 a.pr) ∧ W.cell? ⟨g2, k * 3, none⟩ = some (.int .i64 a.job) ∧ W.cell? ⟨g2, k * 3 + 1, none⟩ = some (.string ⟨⟨a.tn⟩⟩) ∧ W.cell? ⟨g2, k * 3 + 2, none⟩ = some (.int .i64 a.pr)) := fun W b => ⟨keep1c' b (hg1 0 _ rfl), keep1c' b (hg1 1 _ rfl), keep1c' b (hg1 2 _ rfl), keep1c' b (hg2 0 _ rfl), keep1c' b (hg2 1 _ rfl), keep1c' b (hg2 2 _ rfl)⟩
      have hk1 : (k : Int) < (n : Int) := by omega
      have hk2 : decide ((k : Int) < (n : Int)) = true := decide_eq_true hk1
      have zz := SS.out _ HI.out
      have zd := SS.out (wr.drewN 1) (below_drewN HI.out 1)
      have X20 := HP.out wr.drew a.job a.pr ⟨⟨a.tn⟩⟩
      have q56 := eq56 a.job a.pr ⟨⟨a.tn⟩⟩
      clear ha hg1 hg2
      obtain ⟨aj, atn, ap⟩ := a
      simp only [] at zz zd X20 q56 SS
      go_wp2_with fail
      go_region_held3 (fun W : World => W.cell? ⟨g1, k * 3, none⟩ = some (.int .i64 aj) ∧ W.cell? ⟨g1, k * 3 + 1, none⟩ = some (.string ⟨⟨atn⟩⟩) ∧ W.cell? ⟨g1, k * 3 + 2, none⟩ = some (.int .i64 ap) ∧ W.cell? ⟨g2, k * 3, none⟩ = some (.int .i64 aj) ∧ W.cell? ⟨g2, k * 3 + 1, none⟩ = some (.string ⟨⟨atn⟩⟩) ∧ W.cell? ⟨g2, k * 3 + 2, none⟩ = some (.int .i64 ap)) (first | (with_reducible assumption) | (exact zd) | (exact zz) | go_keep) (first
        | (go_at_call 20; refine X20.mono ?_; rintro e w3 ⟨rfl, h3⟩; have B3 : Below w.heap.size w w3 := (below_drewN HI.out 1).trans (h3.out.mono HI.out.size); have zz := SS.out _ B3))
      all_goals go_wp2_with fail
      all_goals exact ⟨⟨k + 1, by simp, hkn, B3⟩, by simp [intOf]; omega⟩
    · have hk1 : ¬ (k : Int) < (n : Int) := by omega
      have hk2 : decide ((k : Int) < (n : Int)) = false := decide_eq_false hk1
      go_wp2_with fail
      go_ret
      exact ⟨rfl, HI.out⟩
end Go.Proofs.Ythlbeofonbbbdaa
