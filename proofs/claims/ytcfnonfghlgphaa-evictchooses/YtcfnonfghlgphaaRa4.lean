/-
  The document's Turns.
-/
import Derived.Test.YtcfnonfghlgphaaRa3
namespace Go.Proofs.Ytcfnonfghlgphaa
open Go.RowKit Go.Maps Go.WideMaps Go.Sort

theorem ir_mono {b b' : Nat} {w : World} {v : Value} {J : List Int} (h : IR b w v J) (hb : b' ≤ b) : IR b' w v J := ⟨h.1, by
  rcases h.2 with h | ⟨g, cap, cur, e, hb1, rest⟩
  · exact .inl h
  · exact .inr ⟨g, cap, cur, e, Nat.le_trans hb hb1, rest⟩⟩
set_option maxHeartbeats 4000000 in
set_option maxRecDepth 100000 in
theorem rturns_all (w : World) (q : Option Addr) (n c : Nat) (L : List Vi) (hl : Hid (L.length = n)) (hn : n ≤ 1000) (hr : Hid (VA w q L)) :
    Calls Try.prog 11 #[.slice q n c] w (TurP w L) := by
  have H24 : Hid (Calls Try.prog 24 #[.slice q n c] w fun e w' => e = .returned (.bool (decide (¬ Uj L))) ∧ Hid (Below w.heap.size w w')) := twice_any w q n c L hl (by omega) hr
  by_cases hU : Uj L
  · have HR : Hid (turR L = (0, (srtV L).map Vi.j)) := by show _ = _; unfold turR; rw [if_pos hU]
    have H24' : Hid (Calls Try.prog 24 #[.slice q n c] w fun e w' => e = .returned (.bool false) ∧ Hid (Below w.heap.size w w')) := by
      have := H24.out
      rw [decide_eq_false (fun h => h hU)] at this
      exact this
    have H25 : Hid (∀ W, Below w.heap.size w W → Calls Try.prog 25 #[.slice q n c] W fun e w' => ∃ p c', e = .returned (.slice p n c') ∧ Hid (WR W.heap.size w' (.slice p n c') (srtV L) ∧ Below W.heap.size W w')) := fun W b => sorted_any W q n c L hl hn (hr.out.below b) hU
    have HL : Hid ((srtV L).length = n) := (srtV_perm L).length_eq.trans hl.out
    clear H24 hU hl hr
    go_enter Try.func11, Try.ntmps11
    go_upto_region 5 with (first | (go_at_call 24; refine H24'.out.mono ?_; rintro e w1 ⟨rfl, b1⟩) | (go_at_call 25; refine (H25.out _ b1.out).mono ?_; rintro e w2 ⟨p2, c2, rfl, h2⟩))
    have HV : Hid (VA w2 p2 (srtV L) ∧ Below w.heap.size w w2) := ⟨h2.out.1.ga viC_len, below_from b1.out h2.out.2 b1.out.size⟩
    clear H24' H25 b1 h2
    go_wp2_with fail
    go_loopw [4, 6] (fun v x wr => ∃ (k : Nat) (p : Option Addr) (c' : Nat), v = .slice p k c' ∧ x = .int .i64 k ∧ k ≤ n ∧ Hid (IR w2.heap.size wr (.slice p k c') (((srtV L).map Vi.j).take k) ∧ Below w2.heap.size w2 wr)) (fun _ x _ => n - (intOf x).toNat)
    case atStart => exact ⟨0, none, 0, rfl, rfl, Nat.zero_le _, GRow.nil _ _ _ _ _, Below.refl _ _⟩
    case round =>
      obtain ⟨k, p, c', rfl, rfl, hk, HB⟩ := hrel
      by_cases h0 : k = n
      · subst h0
        have HE : Hid (IR w.heap.size wr (.slice p k c') ((srtV L).map Vi.j) ∧ Below w.heap.size w wr) := by
          have h1 := HB.out.1
          rw [List.take_of_length_le (by rw [List.length_map]; exact Nat.le_of_eq HL.out)] at h1
          exact ⟨ir_mono h1 HV.out.2.size, below_from HV.out.2 HB.out.2 HV.out.2.size⟩
        clear HB
        go_wp2_with fail
        go_ret2
        unfold TurP
        rw [HR.out]
        exact ⟨p, k, c', rfl, by show (List.map Vi.j (srtV L)).length = k; rw [List.length_map]; exact HL.out, HE.out⟩
      · have hlt' : (k : Int) < (n : Int) := by omega
        have hd : decide ((k : Int) < (n : Int)) = true := decide_eq_true hlt'
        obtain ⟨u, hu⟩ : ∃ u, (srtV L)[k]? = some u := ⟨(srtV L)[k]'(by have := HL.out; omega), List.getElem?_eq_getElem _⟩
        obtain ⟨g, o, rfl, c0, _⟩ := VA.at (HV.out.1.below HB.out.2) hu
        have HE : Hid (((srtV L).map Vi.j).take (k + 1) = ((srtV L).map Vi.j).take k ++ [u.j]) := take_next (by rw [List.getElem?_map, hu]; rfl)
        clear hu
        generalize u.j = uj at *
        go_wp2_with (at_builtin; refine append_j (B := w2.heap.size) rfl _ _ rfl p k c' (((srtV L).map Vi.j).take k) uj rfl (HB.out.1.below ((Below.refl _ _).alloc (Nat.le_refl _) _)) (Nat.le_trans HB.out.2.size (by simp)) _ 1 rfl (Lib.cell_of_heap new0 0) (by omega) ?_; intro p3 c3 w5 hr5 hg5 hn5; have h5 : Hid (IR w2.heap.size w5 (.slice p3 (k + 1) c3) (((srtV L).map Vi.j).take (k + 1)) ∧ Below w2.heap.size w2 w5) := (by show _ ∧ _; rw [HE.out]; exact ⟨hr5, (HB.out.2.alloc HB.out.2.size _).trans (below_grown hg5 (by have := HB.out.2.size; simp; omega) (fun g e => HB.out.1.ge e))⟩))
        refine ⟨⟨k + 1, p3, c3, rfl, by simp, by omega, h5.out⟩, by simp only [intOf]; omega⟩
  · have HR : Hid (turR L = (5, [])) := by show _ = _; unfold turR; rw [if_neg hU]
    have H24' : Hid (Calls Try.prog 24 #[.slice q n c] w fun e w' => e = .returned (.bool true) ∧ Hid (Below w.heap.size w w')) := by
      have := H24.out
      rw [decide_eq_true hU] at this
      exact this
    clear H24 hU
    go_enter Try.func11, Try.ntmps11
    go_wp2_with (go_at_call 24; refine H24'.out.mono ?_; rintro e w1 ⟨rfl, b1⟩)
    go_ret2
    unfold TurP
    rw [HR.out]
    exact ⟨none, 0, 0, rfl, rfl, GRow.nil _ _ _ _ _, b1.out⟩
end Go.Proofs.Ytcfnonfghlgphaa
