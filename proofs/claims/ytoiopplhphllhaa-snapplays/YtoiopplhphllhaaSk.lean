/-
  The law's loaded, is; the reference's Same.
-/
import Derived.Test.YtoiopplhphllhaaSj
namespace Go.Proofs.Ytoiopplhphllhaa
open Go.RowKit Go.Maps

set_option maxHeartbeats 1000000 in
theorem loaded_at (w : World) (p : Value) (c : Int) (R : Int → Value → World → Prop) (H : Hid (Calls Try.prog 21 #[p] (w.alloc (.cells #[.bool false, .int .i64 0, .slice none 0 0] 29)) fun e w' => ∃ n q m d, e = .returned (.tuple #[.int .i64 n, .slice q m d, .int .i64 c]) ∧ R n (.slice q m d) w' ∧ w'.heap[w.heap.size]? = some (.cells #[.bool false, .int .i64 0, .slice none 0 0] 29 (0, 0)))) :
    Calls Try.prog 22 #[p] w fun e w' => ∃ n q m d w1, e = .returned (.tuple #[.agg #[.bool (c == 0), .int .i64 n, .slice q m d], .int .i64 c]) ∧ R n (.slice q m d) w1 ∧ w' = ((w1.setCell ⟨w.heap.size, 0, none⟩ (.bool (c == 0))).setCell ⟨w.heap.size, 1, none⟩ (.int .i64 n)).setCell ⟨w.heap.size, 2, none⟩ (.slice q m d) := by
  go_enter Try.func22, Try.ntmps22
  go_wp2_with (go_at_call 21; refine H.out.mono ?_)
  rintro e w1 ⟨n, q, m, d, rfl, h1, hc⟩
  obtain ⟨e0, e1, e2⟩ := k3 hc
  have f0 := fz hc 0
  have f1 := fz hc 1
  have f2 := fz hc 2
  have HR : Hid (R n (.slice q m d) w1) := h1
  clear h1
  go_wp2_with fail
  have g0 : (((w1.setCell ⟨w.heap.size, 0, none⟩ (.bool (c == 0))).setCell ⟨w.heap.size, 1, none⟩ (.int .i64 n)).setCell ⟨w.heap.size, 2, none⟩ (.slice q m d)).heap[w.heap.size]? = some (.cells #[.bool (c == 0), .int .i64 n, .slice q m d] 29 (0, 0)) := setB (setB (setB hc _) _) _
  obtain ⟨y0, y1, y2⟩ := k3 g0
  refine bodyPost_ret (v := .tuple #[.agg #[.bool (c == 0), .int .i64 n, .slice q m d], .int .i64 c]) (by rw [results_cell_tmp rfl]; go_simp) rfl ?_
  exact ⟨n, q, m, d, w1, rfl, HR.out, rfl⟩
theorem PsOwn.keepAt {w w1 : World} {B : Nat} {v : Value} {l : List RC} (h : PsOwn w B v l) (b : ∀ g, B ≤ g → w1.heap[g]? = w.heap[g]?) : PsOwn w1 B v l :=
  ⟨ownsKeep h.row fun g hg => b g (World.ownsRow.lt h.row g hg).1, fun r hr => (h.each r hr).keepAt fun g hg => b g (World.ownsRow.lt (h.each r hr) g hg).1⟩
theorem loaded_any {w : World} {tg : Nat → Tg} {pb : Nat} {D : DK} (h : Dsk w tg pb D) (s : Option (Nat × List (List UInt8))) (hs : Holds D s) :
    Calls Try.prog 22 #[.pointer (some ⟨pb, 0, none⟩)] w fun e w' => ∃ (n : Nat) (q : Option Addr) (m d : Nat) (l : List RC), e = .returned (.tuple #[.agg #[.bool (ldE D s == 0), .int .i64 n, .slice q m d], .int .i64 (ldE D s)]) ∧ PsOwn w' w.heap.size (.slice q m d) l ∧ Below w.heap.size w w' ∧ (ldE D s = 0 → s = some (n, l.map RC.b)) := by
  have b0 : Below w.heap.size w (w.alloc (.cells #[.bool false, .int .i64 0, .slice none 0 0] 29)) := (Below.refl _ w).alloc (Nat.le_refl _) _
  have hsz : (w.alloc (.cells #[.bool false, .int .i64 0, .slice none 0 0] 29)).heap.size = w.heap.size + 1 := by simp
  refine (loaded_at w _ (ldE D s) (fun n v w' => ∃ (k : Nat) (l : List RC), n = k ∧ PsOwn w' (w.heap.size + 1) v l ∧ Below (w.heap.size + 1) (w.alloc (.cells #[.bool false, .int .i64 0, .slice none 0 0] 29)) w' ∧ (ldE D s = 0 → s = some (k, l.map RC.b))) ((load_any (h.keepB b0) s hs).mono ?_)).mono ?_
  · rintro e w' ⟨n, v, rfl, l, h1, h2, h3⟩
    obtain ⟨q, d, rfl⟩ := sl_own h1.row
    rw [hsz] at h1 h2
    refine ⟨n, q, _, d, rfl, ⟨n, l, rfl, h1, h2, h3⟩, ?_⟩
    rw [h2.block _ (by omega)]
    exact new0
  · rintro e w' ⟨n, q, m, d, w1, rfl, ⟨k, l, rfl, h1, h2, h3⟩, rfl⟩
    have hset : ∀ g, g ≠ w.heap.size → (((w1.setCell ⟨w.heap.size, 0, none⟩ (.bool (ldE D s == 0))).setCell ⟨w.heap.size, 1, none⟩ (.int .i64 k)).setCell ⟨w.heap.size, 2, none⟩ (.slice q m d)).heap[g]? = w1.heap[g]? := fun g hg => by
      rw [Below.heap_setCell _ _ _ _ hg, Below.heap_setCell _ _ _ _ hg, Below.heap_setCell _ _ _ _ hg]
    have hs2 := h2.size
    rw [hsz] at hs2
    refine ⟨k, q, m, d, l, rfl, (h1.keepAt fun g hg => hset g (by omega)).low (by omega), ⟨?_, ?_, ?_, by simp [World.setCell]; omega, fun g hg => ?_⟩, h3⟩
    · exact h2.os
    · exact h2.tape
    · exact h2.output
    · rw [hset g (by omega), h2.block g (by omega)]
      exact b0.block g hg

/-! ### SameBytes draws alone -/
set_option maxHeartbeats 1000000 in
theorem same_someq (l m : List UInt8) (g o g' o' c d n : Nat) (w : World) (hL : Hid (l.length = n)) (hM : Hid (m.length = n)) (hn : n < 1152921504606846976) (hr : Hid (Row w g o l)) (hr' : Hid (Row w g' o' m)) :
    Calls Try.prog 50 #[.slice (some ⟨g, o, none⟩) n c, .slice (some ⟨g', o', none⟩) n d] w fun e w' => e = .returned (.bool (decide (l = m))) ∧ ∃ j, w' = w.drewN j := by
  go_enter Try.func50, Try.ntmps50
  go_wp2_with fail
  go_loopw [5] (fun i wr => ∃ k j : Nat, k ≤ n ∧ i = .int .i64 k ∧ l.take k = m.take k ∧ wr = w.drewN j) (fun i _ => n - (intOf i).toNat)
  case atStart => exact ⟨0, 0, Nat.zero_le _, rfl, by rw [List.take_zero, List.take_zero], rfl⟩
  case round =>
    obtain ⟨k, j, hk, rfl, hq, rfl⟩ := hrel
    have HQ : Hid (l.take k = m.take k) := hq
    clear hq
    by_cases hlt : k < n
    · obtain ⟨x, hx⟩ : ∃ x, l[k]? = some x := ⟨l[k]'(by have := hL.out; omega), List.getElem?_eq_getElem _⟩
      obtain ⟨y, hy⟩ : ∃ y, m[k]? = some y := ⟨m[k]'(by have := hM.out; omega), List.getElem?_eq_getElem _⟩
      have h0 := hr.out k x hx
      have h1 := hr'.out k y hy
      have hi : (k : Int) < (n : Int) := by omega
      by_cases hxy : x = y
      · have HN : Hid (l.take (k + 1) = m.take (k + 1)) := by rw [take_snoc hx, take_snoc hy, HQ.out, hxy]; exact rfl
        subst hxy
        clear hx hy
        go_wp2_with fail
        go_quiet (fail)
        go_wp2_with fail
        refine ⟨⟨k + 1, _, by omega, by go_num, HN.out, rfl⟩, ?_⟩
        simp [intOf]; omega
      · have hne : ((x.toNat : Int) != (y.toNat : Int)) = true := by
          simp only [bne_iff_ne, ne_eq, Int.natCast_inj]
          exact fun h => hxy (UInt8.toNat_inj.1 h)
        have HF : Hid (decide (l = m) = false) := by
          refine (decide_eq_false fun h => hxy ?_ : decide (l = m) = false)
          rw [h, hy] at hx
          exact (Option.some.inj hx).symm
        clear hx hy hxy
        go_wp2_with fail
        go_quiet (fail)
        go_wp2_with fail
        go_ret
        exact ⟨ret_b HF.out.symm, _, World.drewN_drewN ..⟩
    · have HT : Hid (decide (l = m) = true) := by
        refine (decide_eq_true ?_ : decide (l = m) = true)
        have := HQ.out
        rwa [List.take_of_length_le (by have := hL.out; omega), List.take_of_length_le (by have := hM.out; omega)] at this
      go_wp2_with fail
      go_ret
      exact ⟨ret_b HT.out.symm, _, rfl⟩
theorem same_q (l m : List UInt8) (a b : Option Addr) (c d : Nat) (w : World) (hl : l.length < 1152921504606846976) (ha : Lies w a l) (hb : Lies w b m) :
    Calls Try.prog 50 #[.slice a l.length c, .slice b m.length d] w fun e w' => e = .returned (.bool (decide (l = m))) ∧ ∃ j, w' = w.drewN j := by
  by_cases hn : l.length = m.length
  · by_cases h0 : l.length = 0
    · obtain rfl := List.eq_nil_of_length_eq_zero h0
      obtain rfl := List.eq_nil_of_length_eq_zero (hn.symm.trans h0)
      refine (same_none a b c d w).mono ?_
      rintro e w' ⟨rfl, rfl⟩
      exact ⟨rfl, 0, rfl⟩
    · rcases ha with rfl | ⟨g, o, rfl, ha⟩
      · exact absurd rfl h0
      rcases hb with rfl | ⟨g', o', rfl, hb⟩
      · exact absurd hn h0
      rw [← hn]
      exact same_someq l m g o g' o' c d l.length w rfl hn.symm hl ha hb
  · refine (same_len a b _ _ c d w (by simp; omega)).mono ?_
    rintro e w' ⟨rfl, rfl⟩
    exact ⟨ret_b (decide_eq_false fun h => hn (by rw [h])).symm, 0, rfl⟩
end Go.Proofs.Ytoiopplhphllhaa
