/-
  A job as bytes: the reference's job.
-/
import Derived.Test.YtnkkiepoljbhlaaEne
namespace Go.Proofs.Ytnkkiepoljbhlaa
open Go.RowKit

set_option maxHeartbeats 2000000 in
set_option maxRecDepth 100000 in
theorem refJob_at (B n : Nat) (q : Option Addr) (cp : Nat) (l : List UInt8) (id pr rt st at' sr : Int) (tn : ByteArray) (pa ta na da : Option Addr) (pn pc tk tc nn nc dn dc : Nat) (A : List Int) (T : List V4) (w : World)
    (h1 : 0 ≤ id ∧ id < 9223372036854775808) (h2 : 0 ≤ pr ∧ pr < 9223372036854775808) (h3 : 0 ≤ rt ∧ rt < 9223372036854775808) (hA : A.length = pn) (hT : T.length = tk) (hp : pn ≤ 1000) (ht : tk ≤ 1000)
    (lA : ∀ W, Below B w W → LiesV W pa (intsV A)) (lT : ∀ W, Below B w W → LiesV W ta (flat T)) (xA : ∀ x ∈ A, 0 ≤ x ∧ x < 9223372036854775808) (xT : ∀ x ∈ T, x.pos) (hown : Own w B (.slice q n cp) l) (hB : B ≤ w.heap.size) (hl : n + 100 + (jobB id tn pr rt A T).length ≤ 35184372088832) :
    Calls Try.prog 26 #[.slice q n cp, .agg #[.int .i64 id, .string tn, .int .i64 pr, .int .i64 rt, .slice pa pn pc, .slice ta tk tc, .int .i64 st, .int .i64 at', .slice na nn nc, .int .i64 sr, .slice da dn dc]] w fun e w' => ∃ q' k' c', e = .returned (.slice q' k' c') ∧ Own w' B (.slice q' k' c') (l ++ jobB id tn pr rt A T) ∧ Bw B w w' := by
  obtain ⟨box, hbox⟩ : ∃ box, box = Obj.cells #[.int .i64 id, .string tn, .int .i64 pr, .int .i64 rt, .slice pa pn pc, .slice ta tk tc, .int .i64 st, .int .i64 at', .slice na nn nc, .int .i64 sr, .slice da dn dc] 30 (0, 0) := ⟨_, rfl⟩
  have hne : ∀ cs, box ≠ Obj.cells cs 5 (0, 0) := fun cs h => by rw [hbox] at h; cases h
  have G0 : Hid (Wg B w (w.alloc (.cells #[.int .i64 id, .string tn, .int .i64 pr, .int .i64 rt, .slice pa pn pc, .slice ta tk tc, .int .i64 st, .int .i64 at', .slice na nn nc, .int .i64 sr, .slice da dn dc] 30)) w.heap.size box (.slice q n cp) l) := ⟨hown.keep ((Below.refl _ w).alloc (Nat.le_refl _) _), (Bw.refl B w).alloc hB _, by rw [hbox]; exact new0⟩
  have hlen := (own_parts hown).2.2
  have z := hl
  unfold jobB lstB at z
  simp only [List.length_append] at z
  have HC : Hid (∀ (W : World) (v : Value) (l' : List UInt8), Wg B w W w.heap.size box v l' → W.cell? ⟨w.heap.size, 0, none⟩ = some (.int .i64 id) ∧ W.cell? ⟨w.heap.size, 1, none⟩ = some (.string tn) ∧ W.cell? ⟨w.heap.size, 2, none⟩ = some (.int .i64 pr) ∧ W.cell? ⟨w.heap.size, 3, none⟩ = some (.int .i64 rt) ∧ W.cell? ⟨w.heap.size, 4, none⟩ = some (.slice pa pn pc) ∧ W.cell? ⟨w.heap.size, 5, none⟩ = some (.slice ta tk tc)) := fun W v l' h => by
    have hx := h.x
    rw [hbox] at hx
    obtain ⟨e0, e1, e2, e3, e4, e5, _⟩ := c11a hx
    exact ⟨e0, e1, e2, e3, e4, e5⟩
  have N1 : Hid (∀ (W : World) (q : Option Addr) (k c : Nat) (l' : List UInt8) (x : Int), Wg B w W w.heap.size box (.slice q k c) l' → 0 ≤ x ∧ x < 9223372036854775808 → l'.length ≤ 35184372088832 → Calls Try.prog 24 #[.slice q k c, .int .i64 x] W fun e w' => ∃ q' k' c', e = .returned (.slice q' k' c') ∧ Hid (Wg B w w' w.heap.size box (.slice q' k' c') (l' ++ numI x))) := fun W q k c l' x h hx hk => by
    have := (own_parts h.o).2.2
    refine (refNum1 B x k q c l' W hx h.o (Nat.le_trans hB h.b.size) (by omega)).mono ?_
    rintro e w' ⟨q', k', c', rfl, o, b⟩
    exact ⟨q', k', c', rfl, h.next hne o b⟩
  have N2 : Hid (∀ (W : World) (q : Option Addr) (k c : Nat) (l' : List UInt8), Wg B w W w.heap.size box (.slice q k c) l' → l'.length ≤ 35184372088832 → Calls Try.prog 23 #[.slice q k c, .string tn] W fun e w' => ∃ q' k' c', e = .returned (.slice q' k' c') ∧ Hid (Wg B w w' w.heap.size box (.slice q' k' c') (l' ++ txtB tn))) := fun W q k c l' h hk => by
    have := (own_parts h.o).2.2
    have hz : tn.size ≤ 35184372088832 := by
      unfold txtB at z
      simp only [List.length_append] at z
      rw [Lib.size_eq]
      omega
    refine (refTxt1 B k q c l' tn W h.o (Nat.le_trans hB h.b.size) (by omega) hz).mono ?_
    rintro e w' ⟨q', k', c', rfl, o, b⟩
    exact ⟨q', k', c', rfl, h.next hne o b⟩
  have N3 : Hid (∀ (W : World) (q : Option Addr) (k c : Nat) (l' : List UInt8) (v : V4), Wg B w W w.heap.size box (.slice q k c) l' → v.pos → l'.length ≤ 35184372088832 → Calls Try.prog 25 #[.slice q k c, .agg #[.int .i64 v.a, .int .i64 v.b, .int .i64 v.c, .int .i64 v.d]] W fun e w' => ∃ q' k' c', e = .returned (.slice q' k' c') ∧ Hid (Wg B w w' w.heap.size box (.slice q' k' c') (l' ++ vecB v))) := fun W q k c l' v h hv hk => by
    have := (own_parts h.o).2.2
    refine (refVec1 B k q c l' v W hv h.o (Nat.le_trans hB h.b.size) (by omega)).mono ?_
    rintro e w' ⟨q', k', c', rfl, o, b⟩
    exact ⟨q', k', c', rfl, h.next hne o b⟩
  have HM : Hid (A.length = pn ∧ T.length = tk ∧ (∀ W, Below B w W → LiesV W pa (intsV A)) ∧ (∀ W, Below B w W → LiesV W ta (flat T)) ∧ (∀ x ∈ A, 0 ≤ x ∧ x < 9223372036854775808) ∧ (∀ x ∈ T, x.pos)) := ⟨hA, hT, lA, lT, xA, xT⟩
  have hp' : (pn : Int) ≤ 1000 := by omega
  have ht' : (tk : Int) ≤ 1000 := by omega
  have Z : Hid (l.length + 100 + ((numI id).length + ((txtB tn).length + ((numI pr).length + ((numI rt).length + ((num A.length).length + (A.flatMap numI).length + ((num T.length).length + (T.flatMap vecB).length)))))) ≤ 35184372088832) := by rw [hlen]; exact z
  have HX : Hid ((0 ≤ id ∧ id < 9223372036854775808) ∧ (0 ≤ pr ∧ pr < 9223372036854775808) ∧ (0 ≤ rt ∧ rt < 9223372036854775808)) := ⟨h1, h2, h3⟩
  clear hl z hlen hown hB h1 h2 h3 lA lT xA xT hA hT hp ht hne hbox
  go_enter Try.func26, Try.ntmps26
  go_upto_region 1 with fail
  generalize w.alloc (.cells #[.int .i64 id, .string tn, .int .i64 pr, .int .i64 rt, .slice pa pn pc, .slice ta tk tc, .int .i64 st, .int .i64 at', .slice na nn nc, .int .i64 sr, .slice da dn dc] 30) = W at *
  obtain ⟨e0, e1, e2, e3, e4, e5⟩ := HC.out _ _ _ G0.out
  go_upto_region 2 with (go_at_call 24; refine (N1.out _ _ _ _ _ _ G0.out HX.out.1 (by have := Z.out; omega)).mono ?_; rintro e w1 ⟨q1, k1, c1, rfl, G1⟩)
  clear e0 e1 e2 e3 e4 e5 G0
  obtain ⟨e0, e1, e2, e3, e4, e5⟩ := HC.out _ _ _ G1.out
  go_upto_region 3 with (go_at_call 23; refine (N2.out _ _ _ _ _ G1.out (by have := Z.out; simp only [List.length_append]; omega)).mono ?_; rintro e w2 ⟨q2, k2, c2, rfl, G2⟩)
  clear e0 e1 e2 e3 e4 e5 G1
  obtain ⟨e0, e1, e2, e3, e4, e5⟩ := HC.out _ _ _ G2.out
  go_upto_region 4 with (go_at_call 24; refine (N1.out _ _ _ _ _ _ G2.out HX.out.2.1 (by have := Z.out; simp only [List.length_append]; omega)).mono ?_; rintro e w3 ⟨q3, k3, c3, rfl, G3⟩)
  clear e0 e1 e2 e3 e4 e5 G2
  obtain ⟨e0, e1, e2, e3, e4, e5⟩ := HC.out _ _ _ G3.out
  go_upto_region 5 with (go_at_call 24; refine (N1.out _ _ _ _ _ _ G3.out HX.out.2.2 (by have := Z.out; simp only [List.length_append]; omega)).mono ?_; rintro e w4 ⟨q4, k4, c4, rfl, G4⟩)
  clear e0 e1 e2 e3 e4 e5 G3
  obtain ⟨e0, e1, e2, e3, e4, e5⟩ := HC.out _ _ _ G4.out
  have z5 : Hid (0 ≤ (pn : Int) ∧ (pn : Int) < 9223372036854775808) := by unfold Hid; omega
  have z6 : Hid (0 ≤ (tk : Int) ∧ (tk : Int) < 9223372036854775808) := by unfold Hid; omega
  go_upto_region 6 with (go_at_call 24; refine (N1.out _ _ _ _ _ _ G4.out z5.out (by have := Z.out; simp only [List.length_append]; omega)).mono ?_; rintro e w5 ⟨q5, k5, c5, rfl, G5⟩)
  clear e0 e1 e2 e3 e4 e5 G4
  obtain ⟨l5, hl5⟩ : ∃ l5, l5 = l ++ numI id ++ txtB tn ++ numI pr ++ numI rt ++ numI pn := ⟨_, rfl⟩
  rw [← hl5] at G5
  have HL5 : Hid (l5 = l ++ numI id ++ txtB tn ++ numI pr ++ numI rt ++ numI pn ∧ l5.length + 50 + (A.flatMap numI).length + (T.flatMap vecB).length ≤ 35184372088832) := by
    refine ⟨hl5, ?_⟩
    have g1 := Z.out
    have g2 := num_length (pn : Int).toNat
    rw [hl5]
    unfold numI at *
    simp only [List.length_append]
    omega
  clear hl5
  go_wp2_with fail
  go_loopw [0, 5] (fun bv iv wr => ∃ (k j : Nat) (q' : Option Addr) (c' : Nat), iv = .int .i64 k ∧ bv = .slice q' j c' ∧ Hid (k ≤ pn ∧ Wg B w wr w.heap.size box (.slice q' j c') (l5 ++ (A.take k).flatMap numI))) (fun _ iv _ => pn - (intOf iv).toNat)
  case atStart => exact ⟨0, k5, q5, c5, rfl, rfl, Nat.zero_le _, by simpa using G5.out⟩
  case round =>
    clear G5
    obtain ⟨k, j, q', c', rfl, rfl, HK⟩ := hrel
    obtain ⟨_, _, _, _, e4, e5⟩ := HC.out _ _ _ HK.out.2
    by_cases hk : k < pn
    · have hk' : (k : Int) < (pn : Int) := by omega
      obtain ⟨x, hx⟩ : ∃ x, A[k]? = some x := ⟨A[k]'(by have := HM.out.1; omega), List.getElem?_eq_getElem _⟩
      obtain ⟨g, o, eq1, row⟩ : ∃ g o, pa = some ⟨g, o, none⟩ ∧ RowV wr g o (intsV A) := by
        rcases HM.out.2.2.1 wr HK.out.2.b.b with h | h
        · exfalso
          have := ints_get hx
          rw [h] at this
          simp at this
        · exact h
      have t0 := row k _ (ints_get hx)
      have HE : Hid (Calls Try.prog 24 #[.slice q' j c', .int .i64 x] wr fun e w' => ∃ q2 k2 c2, e = .returned (.slice q2 k2 c2) ∧ Hid (k + 1 ≤ pn ∧ Wg B w w' w.heap.size box (.slice q2 k2 c2) (l5 ++ (A.take (k + 1)).flatMap numI))) := by
        have g2 := fl_le numI A k
        have g3 := HL5.out.2
        refine (N1.out wr q' j c' _ x HK.out.2 (HM.out.2.2.2.2.1 x (List.mem_of_getElem? hx)) (by rw [List.length_append]; omega)).mono ?_
        rintro e w' ⟨q2, k2, c2, rfl, o2⟩
        refine ⟨q2, k2, c2, rfl, hk, ?_⟩
        rw [fl_take numI hx, ← List.append_assoc]
        exact o2.out
      have Hk : Hid (k < pn) := hk
      subst eq1
      clear hx row HK hk
      go_wp2_with (go_at_call 24; refine HE.out.mono ?_; rintro e w6 ⟨q2, k2, c2, rfl, h2⟩)
      have := Hk.out
      refine ⟨⟨k + 1, k2, q2, c2, by simp, rfl, h2.out⟩, ?_⟩
      simp [intOf]
      omega
    · have hk' : ¬ (k : Int) < (pn : Int) := by omega
      have hk2 : decide ((k : Int) < (pn : Int)) = false := decide_eq_false hk'
      have G6 : Hid (Wg B w wr w.heap.size box (.slice q' j c') (l5 ++ A.flatMap numI)) := by
        have h := HK.out.2
        rw [List.take_of_length_le (by have := HM.out.1; omega)] at h
        exact h
      have H24 : Hid (Calls Try.prog 24 #[.slice q' j c', .int .i64 tk] wr fun e w' => ∃ q2 k2 c2, e = .returned (.slice q2 k2 c2) ∧ Hid (Wg B w w' w.heap.size box (.slice q2 k2 c2) (l5 ++ A.flatMap numI ++ numI tk))) := N1.out _ _ _ _ _ _ G6.out z6.out (by have := HL5.out.2; rw [List.length_append]; omega)
      clear HK hk G6
      go_wp2_with (go_at_call 24; refine H24.out.mono ?_; rintro e w7 ⟨q7, k7, c7, rfl, G7⟩)
      clear e4 e5 hk' hk2 H24
      go_loopw [0, 6] (fun bv iv wr => ∃ (k j : Nat) (q' : Option Addr) (c' : Nat), iv = .int .i64 k ∧ bv = .slice q' j c' ∧ Hid (k ≤ tk ∧ Wg B w wr w.heap.size box (.slice q' j c') (l5 ++ A.flatMap numI ++ numI tk ++ (T.take k).flatMap vecB))) (fun _ iv _ => tk - (intOf iv).toNat)
      case atStart => exact ⟨0, k7, q7, c7, rfl, rfl, Nat.zero_le _, by simpa using G7.out⟩
      case round =>
        clear G7
        obtain ⟨k, j, q', c', rfl, rfl, HK⟩ := hrel
        obtain ⟨_, _, _, _, e4, e5⟩ := HC.out _ _ _ HK.out.2
        by_cases hk : k < tk
        · have hk' : (k : Int) < (tk : Int) := by omega
          obtain ⟨x, hx⟩ : ∃ x, T[k]? = some x := ⟨T[k]'(by have := HM.out.2.1; omega), List.getElem?_eq_getElem _⟩
          obtain ⟨g, o, eq1, row⟩ : ∃ g o, ta = some ⟨g, o, none⟩ ∧ RowV wr g o (flat T) := by
            rcases HM.out.2.2.2.1 wr HK.out.2.b.b with h | h
            · exfalso
              have := congrArg List.length h
              rw [flat_length] at this
              have := HM.out.2.1
              simp only [List.length_nil] at *
              omega
            · exact h
          obtain ⟨t0, t1, t2, t3⟩ := row_vec row hx
          have HE : Hid (Calls Try.prog 25 #[.slice q' j c', .agg #[.int .i64 x.a, .int .i64 x.b, .int .i64 x.c, .int .i64 x.d]] wr fun e w' => ∃ q2 k2 c2, e = .returned (.slice q2 k2 c2) ∧ Hid (k + 1 ≤ tk ∧ Wg B w w' w.heap.size box (.slice q2 k2 c2) (l5 ++ A.flatMap numI ++ numI tk ++ (T.take (k + 1)).flatMap vecB))) := by
            have g2 := fl_le vecB T k
            have g3 := HL5.out.2
            have g4 := num_length (tk : Int).toNat
            refine (N3.out wr q' j c' _ x HK.out.2 (HM.out.2.2.2.2.2 x (List.mem_of_getElem? hx)) (by unfold numI at *; simp only [List.length_append]; omega)).mono ?_
            rintro e w' ⟨q2, k2, c2, rfl, o2⟩
            refine ⟨q2, k2, c2, rfl, hk, ?_⟩
            rw [fl_take vecB hx, ← List.append_assoc]
            exact o2.out
          have Hk : Hid (k < tk) := hk
          subst eq1
          clear hx row HK hk
          go_wp2_with (go_at_call 25; refine HE.out.mono ?_; rintro e w8 ⟨q2, k2, c2, rfl, h2⟩)
          have := Hk.out
          refine ⟨⟨k + 1, k2, q2, c2, by simp, rfl, h2.out⟩, ?_⟩
          simp [intOf]
          omega
        · have hk' : ¬ (k : Int) < (tk : Int) := by omega
          have hk2 : decide ((k : Int) < (tk : Int)) = false := decide_eq_false hk'
          have HF : Hid (Own wr B (.slice q' j c') (l ++ jobB id tn pr rt A T) ∧ Bw B w wr) := by
            have h := HK.out.2
            rw [List.take_of_length_le (by have := HM.out.2.1; omega), HL5.out.1] at h
            refine ⟨?_, h.b⟩
            have := h.o
            unfold jobB lstB
            rw [HM.out.1, HM.out.2.1]
            have en : ∀ m : Nat, numI (m : Int) = num m := fun m => by unfold numI; rw [Int.toNat_natCast]
            rw [en, en] at this
            simpa only [List.append_assoc] using this
          clear HK hk
          go_wp2_with fail
          go_ret
          exact ⟨q', j, c', rfl, HF.out.1, HF.out.2⟩
end Go.Proofs.Ytnkkiepoljbhlaa
