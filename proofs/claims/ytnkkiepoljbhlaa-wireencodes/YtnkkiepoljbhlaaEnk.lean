/-
  Records as bytes: the reference's Encode of a job submitted and of a job placed (kinds 5, 7).
-/
import Derived.Test.YtnkkiepoljbhlaaEnj
import Derived.Test.YtnkkiepoljbhlaaFmr
set_option linter.unusedSimpArgs false
namespace Go.Proofs.Ytnkkiepoljbhlaa
open Go.RowKit

set_option maxHeartbeats 2000000 in
set_option maxRecDepth 100000 in
theorem renc5 (p : PL) (hk : p.kind = 5) (w : World) (H14 : Hid (∀ W, Below w.heap.size w W → Calls Try.prog 14 #[.agg p.cells] W fun e w' => e = .returned (.bool true) ∧ Below W.heap.size W w')) (A : List Int) (T : List V4) (h1 : 0 ≤ p.jb.id ∧ p.jb.id < 9223372036854775808) (h2 : 0 ≤ p.jb.pr ∧ p.jb.pr < 9223372036854775808) (h3 : 0 ≤ p.jb.rt ∧ p.jb.rt < 9223372036854775808) (hA : A.length = p.jb.pa.n) (hT : T.length = p.jb.tk.n) (hp : p.jb.pa.n ≤ 1000) (ht : p.jb.tk.n ≤ 1000) (lA : ∀ W, Below w.heap.size w W → LiesV W p.jb.pa.a (intsV A)) (lT : ∀ W, Below w.heap.size w W → LiesV W p.jb.tk.a (flat T)) (xA : ∀ x ∈ A, 0 ≤ x ∧ x < 9223372036854775808) (xT : ∀ x ∈ T, x.pos) (hl : 200 + (jobB p.jb.id p.jb.tn p.jb.pr p.jb.rt A T).length ≤ 35184372088832) :
    Calls Try.prog 11 #[.agg p.cells] w fun e w' => ∃ q' k' c', e = .returned (.tuple #[.slice q' k' c', .int .i64 0]) ∧ Own w' w.heap.size (.slice q' k' c') ([5] ++ jobB p.jb.id p.jb.tn p.jb.pr p.jb.rt A T) ∧ Bw w.heap.size w w' := by
  have hc : p.cells = #[.int .i64 5, .string p.tn, .int .i64 p.tw, .int .i64 p.q0, .int .i64 p.q1, .int .i64 p.q2, .int .i64 p.q3, .string p.nd, .int .i64 p.ep, .int .i64 p.v0, .int .i64 p.v1, .int .i64 p.v2, .int .i64 p.v3, .int .i64 p.jb.id, .string p.jb.tn, .int .i64 p.jb.pr, .int .i64 p.jb.rt, .slice p.jb.pa.a p.jb.pa.n p.jb.pa.c, .slice p.jb.tk.a p.jb.tk.n p.jb.tk.c, .int .i64 p.jb.st, .int .i64 p.jb.at', .slice p.jb.nd.a p.jb.nd.n p.jb.nd.c, .int .i64 p.jb.sr, .slice p.jb.dn.a p.jb.dn.n p.jb.dn.c, .int .i64 p.id, .slice p.ns.a p.ns.n p.ns.c, .int .i64 p.st] := by unfold PL.cells; rw [hk]; rfl
  have HC : Hid (∀ W : World, W.heap[w.heap.size]? = some (.cells p.cells 32 (0, 0)) → W.cell? ⟨w.heap.size, 0, none⟩ = some (.int .i64 5) ∧ W.cell? ⟨w.heap.size, 13, none⟩ = some (.int .i64 p.jb.id) ∧ W.cell? ⟨w.heap.size, 14, none⟩ = some (.string p.jb.tn) ∧ W.cell? ⟨w.heap.size, 15, none⟩ = some (.int .i64 p.jb.pr) ∧ W.cell? ⟨w.heap.size, 16, none⟩ = some (.int .i64 p.jb.rt) ∧ W.cell? ⟨w.heap.size, 17, none⟩ = some (.slice p.jb.pa.a p.jb.pa.n p.jb.pa.c) ∧ W.cell? ⟨w.heap.size, 18, none⟩ = some (.slice p.jb.tk.a p.jb.tk.n p.jb.tk.c) ∧ W.cell? ⟨w.heap.size, 19, none⟩ = some (.int .i64 p.jb.st) ∧ W.cell? ⟨w.heap.size, 20, none⟩ = some (.int .i64 p.jb.at') ∧ W.cell? ⟨w.heap.size, 21, none⟩ = some (.slice p.jb.nd.a p.jb.nd.n p.jb.nd.c) ∧ W.cell? ⟨w.heap.size, 22, none⟩ = some (.int .i64 p.jb.sr) ∧ W.cell? ⟨w.heap.size, 23, none⟩ = some (.slice p.jb.dn.a p.jb.dn.n p.jb.dn.c)) := fun W h => by
    rw [hc] at h
    exact c27j h
  have P1 : Hid ((w.alloc (.cells p.cells 32)).heap[w.heap.size]? = some (.cells p.cells 32 (0, 0))) := new0
  have HB : Hid (Below w.heap.size w (w.alloc (.cells p.cells 32))) := (Below.refl _ w).alloc (Nat.le_refl _) _
  have HF' : Hid (Calls Try.prog 14 #[.agg p.cells] (w.alloc (.cells p.cells 32)) fun e w' => e = .returned (.bool true) ∧ Hid (w'.heap[w.heap.size]? = some (.cells p.cells 32 (0, 0)) ∧ Wg w.heap.size w (w'.alloc (.cells #[.int .u8 5] 5)) w.heap.size (.cells p.cells 32) (.slice (some ⟨w'.heap.size, 0, none⟩) 1 1) [5])) := (H14.out _ HB.out).mono fun e w' ⟨h1, h2⟩ => ⟨h1, at_below h2 (Nat.le_refl _) P1.out, rwg_start p h2 5⟩
  have HJ : Hid (∀ (W : World) (q : Option Addr) (k c : Nat), Own W w.heap.size (.slice q k c) [5] → Bw w.heap.size w W → Calls Try.prog 26 #[.slice q k c, .agg #[.int .i64 p.jb.id, .string p.jb.tn, .int .i64 p.jb.pr, .int .i64 p.jb.rt, .slice p.jb.pa.a p.jb.pa.n p.jb.pa.c, .slice p.jb.tk.a p.jb.tk.n p.jb.tk.c, .int .i64 p.jb.st, .int .i64 p.jb.at', .slice p.jb.nd.a p.jb.nd.n p.jb.nd.c, .int .i64 p.jb.sr, .slice p.jb.dn.a p.jb.dn.n p.jb.dn.c]] W fun e w' => ∃ q' k' c', e = .returned (.slice q' k' c') ∧ Hid (Own w' w.heap.size (.slice q' k' c') ([5] ++ jobB p.jb.id p.jb.tn p.jb.pr p.jb.rt A T) ∧ Bw w.heap.size w w')) := fun W q k c ho hb => by
    have h9 := (own_parts ho).2.2
    have hk : k = 1 := by simpa using h9.symm
    refine (refJob_at w.heap.size k q c [5] _ _ _ _ _ _ _ _ _ _ _ _ _ _ _ _ _ _ _ A T W h1 h2 h3 hA hT hp ht (fun W' b => lA W' (hb.b.trans b)) (fun W' b => lT W' (hb.b.trans b)) xA xT ho hb.b.size (by omega)).mono ?_
    rintro e w' ⟨q', k', c', rfl, o, b⟩
    exact ⟨q', k', c', rfl, o, hb.trans b⟩
  clear H14 HB hk hc h1 h2 h3 hA hT hp ht lA lT xA xT hl
  go_enter Try.func11, Try.ntmps11
  go_upto_region 1 with fail
  generalize w.alloc (.cells p.cells 32) = W at *
  go_upto_region 3 with (first
    | refine wpList_load_row rfl 32 _ rfl w.heap.size rfl 32 p.cells (0, 0) _ P1.out Try.underlying32 rfl (size32p p) ?_
    | (go_at_call 14; refine HF'.out.mono ?_; rintro e w1 ⟨rfl, h1⟩))
  obtain ⟨z0, -⟩ := HC.out _ h1.out.1
  clear P1 HF'
  go_upto_region 4 with fail
  have G0 : Hid (Wg w.heap.size w (w1.alloc (.cells #[.int .u8 5] 5)) w.heap.size (.cells p.cells 32) (.slice (some ⟨w1.heap.size, 0, none⟩) 1 1) [5]) := h1.out.2
  clear h1 z0
  generalize w1.alloc (.cells #[.int .u8 5] 5) = Y at *
  obtain ⟨e0, e13, e14, e15, e16, e17, e18, e19, e20, e21, e22, e23⟩ := HC.out _ G0.out.x
  have H0 := HJ.out Y (some ⟨w1.heap.size, 0, none⟩) 1 1 G0.out.o G0.out.b
  have H0' : Hid (Calls Try.prog 26 #[.slice (some ⟨w1.heap.size, 0, none⟩) 1 1, .agg #[.int .i64 p.jb.id, .string p.jb.tn, .int .i64 p.jb.pr, .int .i64 p.jb.rt, .slice p.jb.pa.a p.jb.pa.n p.jb.pa.c, .slice p.jb.tk.a p.jb.tk.n p.jb.tk.c, .int .i64 p.jb.st, .int .i64 p.jb.at', .slice p.jb.nd.a p.jb.nd.n p.jb.nd.c, .int .i64 p.jb.sr, .slice p.jb.dn.a p.jb.dn.n p.jb.dn.c]] Y fun e w' => ∃ q' k' c', e = .returned (.slice q' k' c') ∧ Hid (Own w' w.heap.size (.slice q' k' c') ([5] ++ jobB p.jb.id p.jb.tn p.jb.pr p.jb.rt A T) ∧ Bw w.heap.size w w')) := H0
  clear H0 HJ
  go_wp2_with (go_at_call 26; refine H0'.out.mono ?_; rintro e y1 ⟨q1, k1, c1, rfl, K1⟩)
  go_ret2
  exact ⟨q1, k1, c1, rfl, K1.out.1, K1.out.2⟩
set_option maxHeartbeats 2000000 in
set_option maxRecDepth 100000 in
theorem renc7 (p : PL) (hk : p.kind = 7) (w : World) (H14 : Hid (∀ W, Below w.heap.size w W → Calls Try.prog 14 #[.agg p.cells] W fun e w' => e = .returned (.bool true) ∧ Below W.heap.size W w')) (L : List ByteArray) (qa : Option Addr) (m ca : Nat) (hns : p.ns = ⟨qa, m, ca⟩) (hx : 0 ≤ p.id ∧ p.id < 9223372036854775808) (hm : L.length = m) (h1 : m ≤ 1000) (hL : ∀ W, Bw w.heap.size w W → LiesV W qa (textsV L)) (hs : ∀ x ∈ L, x.size ≤ 35184372088832) (hl : 100 + (L.flatMap txtB).length ≤ 35184372088832) :
    Calls Try.prog 11 #[.agg p.cells] w fun e w' => ∃ q' k' c', e = .returned (.tuple #[.slice q' k' c', .int .i64 0]) ∧ Own w' w.heap.size (.slice q' k' c') ([7] ++ numI p.id ++ lstB txtB L) ∧ Bw w.heap.size w w' := by
  have hc : p.cells = #[.int .i64 7, .string p.tn, .int .i64 p.tw, .int .i64 p.q0, .int .i64 p.q1, .int .i64 p.q2, .int .i64 p.q3, .string p.nd, .int .i64 p.ep, .int .i64 p.v0, .int .i64 p.v1, .int .i64 p.v2, .int .i64 p.v3, .int .i64 p.jb.id, .string p.jb.tn, .int .i64 p.jb.pr, .int .i64 p.jb.rt, .slice p.jb.pa.a p.jb.pa.n p.jb.pa.c, .slice p.jb.tk.a p.jb.tk.n p.jb.tk.c, .int .i64 p.jb.st, .int .i64 p.jb.at', .slice p.jb.nd.a p.jb.nd.n p.jb.nd.c, .int .i64 p.jb.sr, .slice p.jb.dn.a p.jb.dn.n p.jb.dn.c, .int .i64 p.id, .slice qa m ca, .int .i64 p.st] := by unfold PL.cells; rw [hk, hns]; rfl
  have HC : Hid (∀ W : World, W.heap[w.heap.size]? = some (.cells p.cells 32 (0, 0)) → W.cell? ⟨w.heap.size, 0, none⟩ = some (.int .i64 7) ∧ W.cell? ⟨w.heap.size, 24, none⟩ = some (.int .i64 p.id) ∧ W.cell? ⟨w.heap.size, 25, none⟩ = some (.slice qa m ca)) := fun W h => by
    rw [hc] at h
    exact ⟨Lib.cell_of_heap h 0, Lib.cell_of_heap h 24, Lib.cell_of_heap h 25⟩
  have P1 : Hid ((w.alloc (.cells p.cells 32)).heap[w.heap.size]? = some (.cells p.cells 32 (0, 0))) := new0
  have HB : Hid (Below w.heap.size w (w.alloc (.cells p.cells 32))) := (Below.refl _ w).alloc (Nat.le_refl _) _
  have HF' : Hid (Calls Try.prog 14 #[.agg p.cells] (w.alloc (.cells p.cells 32)) fun e w' => e = .returned (.bool true) ∧ Hid (w'.heap[w.heap.size]? = some (.cells p.cells 32 (0, 0)) ∧ Wg w.heap.size w (w'.alloc (.cells #[.int .u8 7] 5)) w.heap.size (.cells p.cells 32) (.slice (some ⟨w'.heap.size, 0, none⟩) 1 1) [7])) := (H14.out _ HB.out).mono fun e w' ⟨h1, h2⟩ => ⟨h1, at_below h2 (Nat.le_refl _) P1.out, rwg_start p h2 7⟩
  have HM : Hid (L.length = m ∧ m ≤ 1000 ∧ (∀ W, Bw w.heap.size w W → LiesV W qa (textsV L)) ∧ (∀ x ∈ L, x.size ≤ 35184372088832) ∧ 100 + (L.flatMap txtB).length ≤ 35184372088832) := ⟨hm, h1, hL, hs, hl⟩
  have h1' : (m : Int) ≤ 1000 := by omega
  have zm : Hid (0 ≤ (m : Int) ∧ (m : Int) < 9223372036854775808) := by unfold Hid; omega
  clear H14 HB hk hc hns hm h1 hL hs hl
  go_enter Try.func11, Try.ntmps11
  go_upto_region 1 with fail
  generalize w.alloc (.cells p.cells 32) = W at *
  go_upto_region 3 with (first
    | refine wpList_load_row rfl 32 _ rfl w.heap.size rfl 32 p.cells (0, 0) _ P1.out Try.underlying32 rfl (size32p p) ?_
    | (go_at_call 14; refine HF'.out.mono ?_; rintro e w1 ⟨rfl, h1⟩))
  obtain ⟨z0, -⟩ := HC.out _ h1.out.1
  clear P1 HF'
  go_upto_region 4 with fail
  have G0 : Hid (Wg w.heap.size w (w1.alloc (.cells #[.int .u8 7] 5)) w.heap.size (.cells p.cells 32) (.slice (some ⟨w1.heap.size, 0, none⟩) 1 1) [7]) := h1.out.2
  clear h1 z0
  generalize w1.alloc (.cells #[.int .u8 7] 5) = Y at *
  obtain ⟨e0, e24, e25⟩ := HC.out _ G0.out.x
  have H0 : Hid (Calls Try.prog 24 #[.slice (some ⟨w1.heap.size, 0, none⟩) 1 1, .int .i64 p.id] Y fun e w' => ∃ q' k' c', e = .returned (.slice q' k' c') ∧ Hid (Wg w.heap.size w w' w.heap.size (.cells p.cells 32) (.slice q' k' c') ([7] ++ numI p.id))) := rwg_num G0.out (Nat.le_refl _) (fun cs h => by cases h) p.id hx (by simp)
  go_upto_region 23 with (go_at_call 24; refine H0.out.mono ?_; rintro e y0 ⟨q0, k0, c0, rfl, K0⟩)
  clear H0 e0 e24 e25
  obtain ⟨e0, e24, e25⟩ := HC.out _ K0.out.x
  have H1 : Hid (Calls Try.prog 24 #[.slice q0 k0 c0, .int .i64 m] y0 fun e w' => ∃ q' k' c', e = .returned (.slice q' k' c') ∧ Hid (Wg w.heap.size w w' w.heap.size (.cells p.cells 32) (.slice q' k' c') ([7] ++ numI p.id ++ numI m))) := rwg_num K0.out (Nat.le_refl _) (fun cs h => by cases h) m zm.out (by have h1 := num_length p.id.toNat; simp only [numI, List.length_append, List.length_cons, List.length_nil]; omega)
  go_upto_region 24 with (go_at_call 24; refine H1.out.mono ?_; rintro e y1 ⟨q1, k1, c1, rfl, K1⟩)
  clear H1 e0 e24 e25
  obtain ⟨l5, hl5⟩ : ∃ l5, l5 = [7] ++ numI p.id ++ numI (m : Int) := ⟨_, rfl⟩
  rw [← hl5] at K1
  have HL5 : Hid (l5 = [7] ++ numI p.id ++ numI (m : Int) ∧ l5.length ≤ 50) := by
    refine ⟨hl5, ?_⟩
    have g1 := num_length p.id.toNat
    have g2 := num_length (m : Int).toNat
    rw [hl5]
    simp only [numI, List.length_append, List.length_cons, List.length_nil]
    omega
  clear hl5 K0 G0 hx
  go_wp2_with fail
  go_loopw [4, 5] (fun bv iv wr => ∃ (k j : Nat) (q' : Option Addr) (c' : Nat), iv = .int .i64 k ∧ bv = .slice q' j c' ∧ Hid (k ≤ m ∧ Wg w.heap.size w wr w.heap.size (.cells p.cells 32) (.slice q' j c') (l5 ++ (L.take k).flatMap txtB))) (fun _ iv _ => m - (intOf iv).toNat)
  case atStart => exact ⟨0, k1, q1, c1, rfl, rfl, Nat.zero_le _, by simpa using K1.out⟩
  case round =>
    clear K1
    obtain ⟨k, j, q', c', rfl, rfl, HK⟩ := hrel
    obtain ⟨e0, e24, e25⟩ := HC.out _ HK.out.2.x
    by_cases hk : k < m
    · have hk' : (k : Int) < (m : Int) := by omega
      obtain ⟨x, hx⟩ : ∃ x, L[k]? = some x := ⟨L[k]'(by have := HM.out.1; omega), List.getElem?_eq_getElem _⟩
      obtain ⟨g, o, eq1, row⟩ : ∃ g o, qa = some ⟨g, o, none⟩ ∧ RowV wr g o (textsV L) := by
        rcases HM.out.2.2.1 wr HK.out.2.b with h | h
        · exfalso
          have := texts_get hx
          rw [h] at this
          simp at this
        · exact h
      have t0 := row k _ (texts_get hx)
      have HE : Hid (Calls Try.prog 23 #[.slice q' j c', .string x] wr fun e w' => ∃ q2 k2 c2, e = .returned (.slice q2 k2 c2) ∧ Hid (k + 1 ≤ m ∧ Wg w.heap.size w w' w.heap.size (.cells p.cells 32) (.slice q2 k2 c2) (l5 ++ (L.take (k + 1)).flatMap txtB))) := by
        have g2 := fl_le txtB L k
        have g3 := HL5.out.2
        have g4 := HM.out.2.2.2.2
        refine (rwg_txt HK.out.2 (Nat.le_refl _) (fun cs h => by cases h) x (HM.out.2.2.2.1 x (List.mem_of_getElem? hx)) (by rw [List.length_append]; omega)).mono ?_
        rintro e w' ⟨q2, k2, c2, rfl, o2⟩
        refine ⟨q2, k2, c2, rfl, hk, ?_⟩
        rw [fl_take txtB hx, ← List.append_assoc]
        exact o2.out
      have Hk : Hid (k < m) := hk
      subst eq1
      clear hx row HK hk
      go_wp2_with (go_at_call 23; refine HE.out.mono ?_; rintro e w6 ⟨q2, k2, c2, rfl, h2⟩)
      have := Hk.out
      refine ⟨⟨k + 1, k2, q2, c2, by simp, rfl, h2.out⟩, ?_⟩
      simp [intOf]
      omega
    · have hk' : ¬ (k : Int) < (m : Int) := by omega
      have hk2 : decide ((k : Int) < (m : Int)) = false := decide_eq_false hk'
      have HF : Hid (Wg w.heap.size w wr w.heap.size (.cells p.cells 32) (.slice q' j c') ([7] ++ numI p.id ++ lstB txtB L)) := by
        have h := HK.out.2
        rw [List.take_of_length_le (by have := HM.out.1; omega), HL5.out.1] at h
        unfold lstB
        rw [HM.out.1, ← List.append_assoc]
        exact h
      clear HK hk
      go_wp2_with fail
      go_ret2
      exact ⟨q', j, c', rfl, HF.out.o, HF.out.b⟩
end Go.Proofs.Ytnkkiepoljbhlaa
