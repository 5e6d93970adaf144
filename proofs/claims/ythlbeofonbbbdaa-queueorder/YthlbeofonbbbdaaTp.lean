/-
  QueueTop's law.
-/
import Derived.Test.YthlbeofonbbbdaaTo
import Derived.Test.YthlbeofonbbbdaaBb
import Derived.BigQuiet
namespace Go.Proofs.Ythlbeofonbbbdaa
open Go.RowKit Go.Maps Go.WideMaps

def NX : Nat → Option Obj := fun _ => none
theorem IsBest.push {D : List J} {x : J} {m : Int} (h : IsBest D m) (hx : 0 ≤ x.pr) : IsBest (iJ x D) (max m x.pr) := by
  obtain ⟨h1, h2, h3⟩ := h
  have mem : ∀ a, a ∈ iJ x D ↔ a = x ∨ a ∈ D := fun a => by rw [(iJ_perm x D).mem_iff, List.mem_cons]
  refine ⟨by omega, fun a ha => ?_, ?_⟩
  · rcases (mem a).1 ha with rfl | q
    · omega
    · have := h2 a q; omega
  · by_cases e : m ≤ x.pr
    · exact .inr ⟨x, (mem x).2 (.inl rfl), by omega⟩
    · rcases h3 with h3 | ⟨a, ha, h3⟩
      · omega
      · exact .inr ⟨a, (mem a).2 (.inr ha), by omega⟩
theorem tops_at {D : List J} {T : List (List UInt8)} {m : Int} {k : Nat} {t : List UInt8} (hk : T[k]? = some t) (ht : hdP D t = m) : (tops D T m)[(tops D (T.take k) m).length]? = some t ∧ (tops D (T.take k) m).length < (tops D T m).length ∧ (tops D (T.take (k + 1)) m).length = (tops D (T.take k) m).length + 1 := by
  have e1 : T.take (k + 1) = T.take k ++ [t] := by rw [List.take_add_one, hk]; rfl
  have e2 : tops D (T.take (k + 1)) m = tops D (T.take k) m ++ [t] := by
    unfold tops
    rw [e1, List.filter_append]
    simp [ht]
  have e3 : tops D T m = tops D (T.take (k + 1)) m ++ tops D (T.drop (k + 1)) m := by
    unfold tops
    rw [← List.filter_append, List.take_append_drop]
  refine ⟨?_, ?_, by rw [e2]; simp⟩
  · rw [e3, e2]; simp
  · rw [e3, e2]; simp
theorem tops_no {D : List J} {T : List (List UInt8)} {m : Int} {k : Nat} {t : List UInt8} (hk : T[k]? = some t) (ht : hdP D t ≠ m) : (tops D (T.take (k + 1)) m).length = (tops D (T.take k) m).length := by
  have e1 : T.take (k + 1) = T.take k ++ [t] := by rw [List.take_add_one, hk]; rfl
  unfold tops
  rw [e1, List.filter_append]
  simp [ht]
theorem push_ok {D : List J} {x : J} (hp : (pushD D x).1 = 0) : x.ok = true := by
  cases e : x.ok with
  | true => rfl
  | false => unfold pushD at hp; rw [e] at hp; simp at hp
set_option maxHeartbeats 8000000 in
set_option maxRecDepth 100000 in
theorem top_law (q : Option Addr) (n c : Nat) (L : List J) (w : World) (hn : n = L.length) (hr : WArg w q L) (hm : n ≤ 9223372036854775807) :
    Calls Try.prog 5 #[.slice q n c] w fun e w' => e = .returned (.bool true) ∧ Below w.heap.size w w' := by
  have HA : Hid (∀ W, Calls Try.prog 8 #[] W fun e w' => e = .returned (.bool true) ∧ Hid (Below W.heap.size W w')) := awakeQ
  have HN : Hid (∀ W, Calls Try.prog 9 #[] W fun e w' => e = .returned (.pointer (some ⟨W.heap.size, 0, none⟩)) ∧ w' = W.alloc (.cells #[.map none, .map none] 54 (0, 0))) := newQ_any
  have HR : Hid (WArg w q L ∧ n = L.length) := ⟨hr, hn⟩
  clear hr hn
  by_cases h20 : 300 < n
  · have g1 : (300 : Int) < (n : Int) := by omega
    have g2 : decide ((300 : Int) < (n : Int)) = true := decide_eq_true g1
    clear HN HR
    go_enter Try.func5, Try.ntmps5
    go_wp2_with (first
      | (go_at_call 8; have _ := b1; refine (HA.out _).mono ?_; rintro e w3 ⟨rfl, b3⟩)
      | (go_at_call 8; refine (HA.out _).mono ?_; rintro e w1 ⟨rfl, b1⟩))
    go_ret
    exact ⟨rfl, b1.out.trans (b3.out.mono b1.out.size)⟩
  have g20 : ¬ (300 : Int) < (n : Int) := by omega
  have g20' : decide ((300 : Int) < (n : Int)) = false := decide_eq_false g20
  have h300 : n ≤ 300 := by omega
  clear hm
  go_enter Try.func5, Try.ntmps5
  go_upto_region 3 with (go_at_call 8; refine (HA.out _).mono ?_; rintro e w1 ⟨rfl, b1⟩)
  clear HA
  go_upto_region 4 with (go_at_call 9; refine (HN.out _).mono ?_; rintro e W0 ⟨rfl, h3⟩; obtain rfl := h3.symm)
  have HL0 : Hid (LQ w (w1.alloc (.cells #[.map none, .map none] 54 (0, 0))) NX w1.heap.size [] 0) := l_new b1.out fun k o e => by cases e
  clear HN b1 h20 g20' h3
  generalize w1.alloc (.cells #[.map none, .map none] 54 (0, 0)) = W0 at *
  generalize w1.heap.size = pb at *
  go_wp2_with fail
  go_loopw [4, 5] (fun y x wr => ∃ (i : Nat) (m : Int), y = .int .i64 m ∧ x = .int .i64 i ∧ i ≤ n ∧ Hid (∃ D, LQ w wr NX pb D i ∧ IsBest D m)) (fun _ x _ => n - (intOf x).toNat)
  case atStart => exact ⟨0, 0, rfl, rfl, Nat.zero_le _, _, HL0.out, Int.le_refl _, (fun _ h => nomatch h), .inl rfl⟩
  case round =>
    obtain ⟨i, m, rfl, rfl, hin, HI⟩ := hrel
    clear HL0
    by_cases hi : i < n
    · have i1 : (i : Int) < (n : Int) := by omega
      have i2 : decide ((i : Int) < (n : Int)) = true := decide_eq_true i1
      obtain ⟨v, hv⟩ : ∃ v, L[i]? = some v := ⟨_, List.getElem?_eq_getElem (by have := HR.out.2; omega)⟩
      obtain ⟨D, hD, hM⟩ := HI.out
      obtain ⟨⟨g, f, rfl, h0, h1, h2⟩, hz⟩ := HR.out.1 i v hv
      have d0 := keep1c' hD.bel h0
      have d1 := keep1c' hD.bel h1
      have d2 := keep1c' hD.bel h2
      have SS : Hid (∀ W, Below w.heap.size w W → W.cell? ⟨g, f + i * 3 + 2, none⟩ = some (.int .i64 v.pr)) := fun W b => keep1c' b h2
      obtain ⟨r, hr⟩ : ∃ r, r = (pushD D v).1 := ⟨_, rfl⟩
      have H12 : Hid (Calls Try.prog 12 #[.pointer (some ⟨pb, 0, none⟩), .agg #[.int .i64 v.job, .string ⟨⟨v.tn⟩⟩, .int .i64 v.pr]] wr fun e w' => e = .returned (.int .i64 r) ∧ Hid (LQ w w' NX pb (pushD D v).2 (i + 1))) := by rw [hr]; exact l_push hD hz (by omega)
      have HSN : Hid (SJ D ∧ NJ D ∧ IsBest D m) := ⟨hD.sj.1, hD.sj.2.1, hM⟩
      by_cases hp : r = 0
      · have HE : Hid (∀ W, LQ w W NX pb (pushD D v).2 (i + 1) → ∃ D, LQ w W NX pb D (i + 1) ∧ IsBest D (max m v.pr)) := fun W h => by
          have hp' : (pushD D v).1 = 0 := by rw [← hr]; exact hp
          have T := took HSN.out.1 HSN.out.2.1 hp'
          have := (ok_pr (push_ok hp')).2.2.1
          exact ⟨_, h, by rw [T.p]; exact HSN.out.2.2.push this⟩
        clear hr hD hM hv HI h0 h1 h2
        subst hp
        obtain ⟨vj, vt, vp⟩ := v
        simp only [] at d0 d1 d2 SS HE
        go_wp2_with (first
          | (go_at_call 12; refine H12.out.mono ?_; rintro e w4 ⟨rfl, h4⟩; have d4 := SS.out _ h4.out.bel)
          | go_in)
        exact ⟨⟨i + 1, max m vp, by first | rfl | (congr 1; omega), by simp, by omega, HE.out _ h4.out⟩, by simp only [intOf]; omega⟩
      · have HE : Hid (∀ W, LQ w W NX pb (pushD D v).2 (i + 1) → ∃ D, LQ w W NX pb D (i + 1) ∧ IsBest D m) := fun W h => by
          rw [took_not (by rw [← hr]; exact hp)] at h
          exact ⟨_, h, HSN.out.2.2⟩
        have p2 : (r == 0) = false := by simpa using hp
        have p3 : decide (r = 0) = false := decide_eq_false hp
        clear hr hD hM hv HI h0 h1 h2
        obtain ⟨vj, vt, vp⟩ := v
        simp only [] at d0 d1 d2 SS HE
        go_wp2_with (go_at_call 12; refine H12.out.mono ?_; rintro e w4 ⟨rfl, h4⟩)
        exact ⟨⟨i + 1, m, rfl, by simp, by omega, HE.out _ h4.out⟩, by simp only [intOf]; omega⟩
    · have i1 : ¬ (i : Int) < (n : Int) := by omega
      have i2 : decide ((i : Int) < (n : Int)) = false := decide_eq_false i1
      obtain ⟨D, hD, hM⟩ := HI.out
      have HD : Hid (LQ w wr NX pb D i ∧ IsBest D m) := ⟨hD, hM⟩
      obtain ⟨T, hT⟩ : ∃ T, T = tens D := ⟨_, rfl⟩
      obtain ⟨tn, htn⟩ : ∃ tn, tn = (tens D).length := ⟨_, rfl⟩
      have htl : Hid (T.length = tn) := by rw [hT, htn]; rfl
      have htn1 : tn ≤ 101 := by
        obtain ⟨S, ⟨⟨ow, mw, mh, l, q, k1, k2, k3, k4⟩, k5⟩, -⟩ := hD.q
        rw [htn, ← k1.tens k2 k3, List.length_map]
        exact k1.few
      have H17 : Hid (Calls Try.prog 17 #[.pointer (some ⟨pb, 0, none⟩)] wr fun e w' => ∃ p l c, e = .returned (.tuple #[.int .i64 m, .slice p l c]) ∧ Hid (SR wr.heap.size w' (.slice p l c) (tops D T m) ∧ LQ w w' NX pb D i)) := by
        obtain ⟨S, k1, -⟩ := hD.q
        refine (top_any k1 hD.sm).mono ?_
        rintro e w' ⟨m', p, l, c, rfl, hh⟩
        have e1 := hh.out.1.one hM
        subst e1
        rw [hT]
        exact ⟨p, l, c, rfl, hh.out.2.1, hD.below hh.out.2.2⟩
      have H13 : Hid (∀ W, LQ w W NX pb D i → Calls Try.prog 13 #[.pointer (some ⟨pb, 0, none⟩)] W fun e w' => ∃ p c, e = .returned (.slice p tn c) ∧ Hid (SR W.heap.size w' (.slice p tn c) T ∧ Below W.heap.size W w')) := fun W h => by
        obtain ⟨S, k1, -⟩ := h.q
        rw [hT, htn]
        exact tens_any k1
      have H15 : Hid (∀ W t, t ∈ T → LQ w W NX pb D i → ∃ a : J, hdP D t = a.pr ∧ Hid (Calls Try.prog 15 #[.pointer (some ⟨pb, 0, none⟩), .string ⟨⟨t⟩⟩] W fun e w' => e = .returned (.tuple #[.agg #[.int .i64 a.job, .string ⟨⟨a.tn⟩⟩, .int .i64 a.pr], .int .i64 0]) ∧ Hid (Below W.heap.size W w'))) := fun W t ht h => by
        obtain ⟨S, k1, -⟩ := h.q
        obtain ⟨a, ha, e1, e2, -⟩ := top_of h.sj.1 (by rw [← hT]; exact ht)
        refine ⟨a, by unfold hdP; rw [e2], ?_⟩
        have := qhead_any k1 ⟨⟨t⟩⟩ (by have := h.sm a ha; rw [e1] at this; show t.length ≤ _; unfold maxLen; omega)
        rw [show (⟨⟨t⟩⟩ : ByteArray).data.toList = t from rfl, e2] at this
        exact this
      clear hD hM HI HR hT htn
      go_upto_region 11 with (go_at_call 17; refine H17.out.mono ?_; rintro e W1 ⟨p1, l1, c1, rfl, h1⟩)
      go_upto_region 12 with (go_at_call 13; refine (H13.out _ h1.out.2).mono ?_; rintro e W2 ⟨p2, c2, rfl, h2⟩)
      have HQ2 : Hid (LQ w W2 NX pb D i) := h1.out.2.below h2.out.2
      obtain ⟨base1, R1⟩ : ∃ b, Hid (SR b W2 (.slice p1 l1 c1) (tops D T m)) := ⟨_, h1.out.1.below h2.out.2⟩
      obtain ⟨base2, R2⟩ : ∃ b, Hid (SR b W2 (.slice p2 tn c2) T) := ⟨_, h2.out.1⟩
      have hl1 : Hid (l1 = (tops D T m).length) := R1.out.len
      have hl1b : l1 ≤ 101 := by
        have := List.length_filter_le (fun t => decide (hdP D t = m)) T
        have e1 := hl1.out
        have e2 := htl.out
        unfold tops at e1
        omega
      clear H17 H13 h1 h2 HD
      go_wp2_with fail
      go_loopw [9, 10] (fun y x wr => ∃ (k j : Nat), y = .int .i64 j ∧ x = .int .i64 k ∧ k ≤ tn ∧ j ≤ 101 ∧ Hid (j = (tops D (T.take k) m).length ∧ Below W2.heap.size W2 wr)) (fun _ x _ => tn - (intOf x).toNat)
      case atStart => exact ⟨0, 0, rfl, rfl, Nat.zero_le _, by omega, rfl, Below.refl _ _⟩
      case round =>
        obtain ⟨k, j, rfl, rfl, hk, hj, HK⟩ := hrel
        by_cases hkn : k < tn
        · obtain ⟨t, ht⟩ : ∃ t, T[k]? = some t := ⟨_, List.getElem?_eq_getElem (by have := htl.out; omega)⟩
          obtain ⟨a, ha, HX15⟩ := H15.out wr t (List.mem_of_getElem? ht) (HQ2.out.below HK.out.2)
          obtain ⟨g2, rfl, hg2⟩ := R2.out.at sC_len ht
          have y0 := keep1c' HK.out.2 (hg2 0 _ rfl)
          simp only [Nat.mul_one, Nat.add_zero] at y0
          have k1 : (k : Int) < (tn : Int) := by omega
          have k2 : decide ((k : Int) < (tn : Int)) = true := decide_eq_true k1
          clear H15
          by_cases hpm : a.pr = m
          · obtain ⟨e1, e2, e3⟩ := tops_at ht (ha.trans hpm)
            rw [← HK.out.1] at e1 e2 e3
            obtain ⟨g1, rfl, hg1⟩ := R1.out.at sC_len e1
            have z0 := hg1 0 _ rfl
            simp only [Nat.mul_one, Nat.add_zero] at z0
            have hjl : j < l1 := by rw [hl1.out]; exact e2
            have j1 : ¬ (l1 : Int) ≤ (j : Int) := by omega
            have j2 : decide ((l1 : Int) ≤ (j : Int)) = false := decide_eq_false j1
            have E3 : Hid ((tops D (T.take (k + 1)) m).length = j + 1) := e3
            have y0h : Hid (W2.cell? ⟨g2, k, none⟩ = some (.string ⟨⟨t⟩⟩) ∧ W2.cell? ⟨g1, j, none⟩ = some (.string ⟨⟨t⟩⟩)) := ⟨by have := hg2 0 _ rfl; simpa using this, z0⟩
            clear e1 e2 e3 hg1 hg2 ht ha z0
            obtain ⟨aj, at', ap⟩ := a
            simp only [] at hpm HX15
            subst hpm
            go_upto_region 17 with (go_at_call 15; refine HX15.out.mono ?_; rintro e w3 ⟨rfl, b3⟩)
            have B4 : Hid (Below W2.heap.size W2 (w3.alloc (.cells #[.int .i64 aj, .string ⟨⟨at'⟩⟩, .int .i64 ap] 32))) := HK.out.2.trans ((b3.out.alloc b3.out.size _).mono HK.out.2.size)
            obtain ⟨-, -, n2⟩ := c3 (new0 (w := w3) (o := .cells #[.int .i64 aj, .string ⟨⟨at'⟩⟩, .int .i64 ap] 32))
            have n3 : w3.heap.size < (w3.alloc (.cells #[.int .i64 aj, .string ⟨⟨at'⟩⟩, .int .i64 ap] 32)).heap.size := by simp
            have u0 := keep1c' B4.out y0h.out.1
            have u1 := keep1c' B4.out y0h.out.2
            clear b3 HX15 y0
            generalize w3.alloc (.cells #[.int .i64 aj, .string ⟨⟨at'⟩⟩, .int .i64 ap] 32) = W4 at *
            generalize w3.heap.size = bb at *
            go_upto_region 20 with fail
            go_quiet (fail)
            go_wp2_with fail
            exact ⟨⟨k + 1, j + 1, by simp, by simp, hkn, by omega, E3.out.symm, below_drewN B4.out nq⟩, by simp [intOf]; omega⟩
          · have e3 := tops_no ht (fun e => hpm (ha.symm.trans e))
            rw [← HK.out.1] at e3
            have E3 : Hid ((tops D (T.take (k + 1)) m).length = j) := e3
            have q2 : (a.pr == m) = false := by simpa using hpm
            have q3 : decide (a.pr = m) = false := decide_eq_false hpm
            clear e3 hg2 ht ha
            obtain ⟨aj, at', ap⟩ := a
            simp only [] at hpm HX15 q2 q3
            go_upto_region 17 with (go_at_call 15; refine HX15.out.mono ?_; rintro e w3 ⟨rfl, b3⟩)
            have B4 : Hid (Below W2.heap.size W2 (w3.alloc (.cells #[.int .i64 aj, .string ⟨⟨at'⟩⟩, .int .i64 ap] 32))) := HK.out.2.trans ((b3.out.alloc b3.out.size _).mono HK.out.2.size)
            obtain ⟨-, -, n2⟩ := c3 (new0 (w := w3) (o := .cells #[.int .i64 aj, .string ⟨⟨at'⟩⟩, .int .i64 ap] 32))
            have n3 : w3.heap.size < (w3.alloc (.cells #[.int .i64 aj, .string ⟨⟨at'⟩⟩, .int .i64 ap] 32)).heap.size := by simp
            clear b3 HX15 y0
            generalize w3.alloc (.cells #[.int .i64 aj, .string ⟨⟨at'⟩⟩, .int .i64 ap] 32) = W4 at *
            generalize w3.heap.size = bb at *
            go_wp2_with fail
            exact ⟨⟨k + 1, j, rfl, by simp, hkn, hj, E3.out.symm, B4.out⟩, by simp [intOf]; omega⟩
        · have k1 : ¬ (k : Int) < (tn : Int) := by omega
          have k2 : decide ((k : Int) < (tn : Int)) = false := decide_eq_false k1
          have hjl : j = l1 := by
            have e1 : T.take k = T := List.take_of_length_le (by have := htl.out; omega)
            have e2 := HK.out.1
            rw [e1, ← hl1.out] at e2
            exact e2
          subst hjl
          have HF : Hid (Below w.heap.size w wr) := HQ2.out.bel.trans (HK.out.2.mono HQ2.out.bel.size)
          clear HK H15
          go_wp2_with fail
          go_ret
          exact ⟨by simp, HF.out⟩
end Go.Proofs.Ythlbeofonbbbdaa
