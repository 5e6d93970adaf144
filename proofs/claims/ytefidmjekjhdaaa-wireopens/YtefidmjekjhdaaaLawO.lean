/-
  The walk of WireOpens.
-/
import Derived.Test.YtefidmjekjhdaaaLawK
import Derived.Test.YtefidmjekjhdaaaTurn
namespace Go.Proofs.Ytefidmjekjhdaaa
open Go.RowKit

set_option maxHeartbeats 1000000 in
theorem opens_long (a b : Option Addr) (c d n m : Nat) (t u : Int) (w : World) (h : 4096 < (n : Int) ∨ (decide ((4096 : Int) < (n : Int)) = false ∧ 10000 < (m : Int))) :
    Calls Try.prog 4 #[.agg #[.slice a n c, .slice b m d], .int .u16 t, .int .u8 u] w fun e w' => e = .returned (.bool true) ∧ Below w.heap.size w w' := by
  rcases h with h | ⟨h, h'⟩
  all_goals
    go_enter Try.func4, Try.ntmps4
    go_wp2_with fail
    go_quiet (fail)
    have B0 : Hid (Below w.heap.size w ((w.alloc (.cells #[.slice a n c, .slice b m d] 31)).drewN nq)) := below_drewN ((Below.refl _ w).alloc (Nat.le_refl _) _) _
    generalize (w.alloc (.cells #[.slice a n c, .slice b m d] 31)).drewN nq = w0 at *
    go_upto_region 3 with (go_at_call 6; refine (awake_any _).mono ?_; rintro e w1 ⟨rfl, b1⟩)
    go_wp2_with (go_at_call 6; refine (awake_any _).mono ?_; rintro e w2 ⟨rfl, b2⟩)
    go_ret
    have y1 := below_from B0.out b1 B0.out.size
    exact ⟨rfl, below_from y1 b2 y1.size⟩

theorem open_row (F : List UInt8) (q : Option Addr) (k c : Nat) (w : World) (B : Nat) (h : Own w B (.slice q k c) F) (hF : F.length ≤ 140737488355328) (ho : Crc.opened F = none) :
    Calls Try.prog 9 #[.slice q k c] w fun e w' => e = .returned (.tuple #[.slice none 0 0, .slice none 0 0, .int .i64 12]) ∧ Below w.heap.size w w' := by
  have hcap := own_cap h
  obtain ⟨h1, h2, h3⟩ := own_parts h
  subst h3
  refine (open_any F q c w h1 h2 hcap hF).mono ?_
  rintro e w' ⟨ha, b⟩
  unfold openAns at ha
  rw [ho] at ha
  exact ⟨ha, b⟩

theorem same_not (l m : List UInt8) (q q' : Option Addr) (k k' c c' : Nat) (w : World) (h : Has w q k l) (h' : Has w q' k' m) (hl : l.length < 1152921504606846976) (hne : l ≠ m) :
    Calls Try.prog 11 #[.slice q k c, .slice q' k' c'] w fun e w' => e = .returned (.bool false) ∧ Below w.heap.size w w' := by
  obtain ⟨h1, rfl⟩ := h
  obtain ⟨h2, h3⟩ := h'
  rw [← h3]
  have := same_any l m q q' c c' w hl h1 h2
  rwa [decide_eq_false hne] at this

theorem turn_byte (x u : UInt8) (hu : ¬ u.toNat = 0) : ∃ y : UInt8, bits .xor .u8 (x.toNat : Int) (u.toNat : Int) = (y.toNat : Int) ∧ x ≠ y := by
  have hx := x.toNat_lt
  have hu' := u.toNat_lt
  have hlt : x.toNat ^^^ u.toNat < 2 ^ 8 := Nat.xor_lt_two_pow hx hu'
  refine ⟨UInt8.ofNat (x.toNat ^^^ u.toNat), ?_, ?_⟩
  · rw [u8_xor _ _ (by omega) (by omega) (by omega) (by omega), UInt8.toNat_ofNat', Int.toNat_natCast, Int.toNat_natCast, Nat.mod_eq_of_lt hlt]
  · intro e
    apply hu
    have := congrArg UInt8.toNat e
    rw [UInt8.toNat_ofNat', Nat.mod_eq_of_lt hlt] at this
    have h0 : x.toNat ^^^ 0 = x.toNat ^^^ u.toNat := by rw [Nat.xor_zero]; exact this
    exact (Crc.xor_cancel' h0).symm

theorem own_has {w : World} {B k c : Nat} {q : Option Addr} {l : List UInt8} (h : Own w B (.slice q k c) l) : Has w q k l := ⟨(own_parts h).1, (own_parts h).2.2⟩

set_option maxHeartbeats 4000000 in
set_option maxRecDepth 100000 in
theorem opens_at (l r : List UInt8) (a b : Option Addr) (c d n m t : Nat) (u : UInt8) (w : World) (hL : Hid (l.length = n)) (hR : Hid (r.length = m)) (hn : n ≤ 4096) (hm : m ≤ 10000) (ht : t ≤ 65535)
    (ha : Hid (Lies w a l)) (hb : Hid (Lies w b r)) (hc : Hid (a = none → c = 0)) (hd : Hid (b = none → d = 0)) :
    Calls Try.prog 4 #[.agg #[.slice a n c, .slice b m d], .int .u16 t, .int .u8 u.toNat] w fun e w' => e = .returned (.bool true) ∧ Below w.heap.size w w' := by
  have HA : Hid (∀ W, Below w.heap.size w W → Has W a n l) := fun W b => ⟨ha.out.keep b (Nat.le_refl _), hL.out⟩
  have HB : Hid (∀ W, Below w.heap.size w W → Has W b m r) := fun W b => ⟨hb.out.keep b (Nat.le_refl _), hR.out⟩
  have HL4 : Hid (l.length ≤ 4096) := by unfold Hid; rw [hL.out]; exact hn
  have H7 : Hid (∀ W, Below w.heap.size w W → Calls Try.prog 7 #[.slice a n c] W fun e w' => ∃ q' k' c', e = .returned (.tuple #[.slice q' k' c', .int .i64 0]) ∧ k' = n + 8 ∧ Own w' W.heap.size (.slice q' k' c') (Crc.frame l) ∧ Below W.heap.size W w') := fun W b => by
    have := frame_any l a c W HL4.out (ha.out.keep b (Nat.le_refl _)) hc.out
    rw [hL.out] at this
    refine this.mono ?_
    rintro e w' ⟨q', c', he, h1, h2⟩
    exact ⟨q', _, c', he, rfl, h1, h2⟩
  have HOP : Hid (Crc.opened (Crc.frame l ++ r) = some (l, r)) := Crc.opened_frame l r HL4.out
  have HFL : Hid ((Crc.frame l).length = n + 8) := by unfold Hid; rw [Crc.frame_length, hL.out]
  have HTL : Hid (∀ (k : Nat) (y : UInt8), k < 4 → (Crc.frame l ++ r)[k]? ≠ some y → ∀ x z, Crc.opened ((Crc.frame l ++ r).set k y) = some (x, z) → x ≠ l) := fun k y hk hy x z h => Crc.turned_low l r HL4.out k hk y hy h
  have HTH : Hid (∀ (k : Nat) (y : UInt8), 4 ≤ k → k < n + 8 → (Crc.frame l ++ r)[k]? ≠ some y → Crc.opened ((Crc.frame l ++ r).set k y) = none) := fun k y hk hk2 hy => Crc.turned_high l r HL4.out k hk (by rw [hL.out]; exact hk2) y hy
  have HF2 : Hid ((Crc.frame l ++ r).length = n + 8 + m) := by unfold Hid; rw [List.length_append, HFL.out, hR.out]
  generalize Crc.frame l = F at *
  go_enter Try.func4, Try.ntmps4
  go_wp2_with fail
  go_quiet (fail)
  have B0 : Hid (Below w.heap.size w ((w.alloc (.cells #[.slice a n c, .slice b m d] 31)).drewN nq)) := below_drewN ((Below.refl _ w).alloc (Nat.le_refl _) _) _
  generalize (w.alloc (.cells #[.slice a n c, .slice b m d] 31)).drewN nq = w0 at *
  have hn4 : decide ((4096 : Int) < (n : Int)) = false := decide_eq_false (by omega)
  have hm4 : decide ((10000 : Int) < (m : Int)) = false := decide_eq_false (by omega)
  go_upto_region 4 with (go_at_call 6; refine (awake_any _).mono ?_; rintro e w1 ⟨rfl, b1⟩)
  have y1 : Hid (Below w.heap.size w w1) := below_from B0.out b1 B0.out.size
  clear b1 B0
  go_upto_region 5 with (go_at_call 7; refine (H7.out _ y1.out).mono ?_; rintro e w2 ⟨q2, k2, c2, rfl, hk2, o2, b2⟩)
  have O2 : Hid (Own w2 w1.heap.size (.slice q2 k2 c2) F) := o2
  have y2 : Hid (Below w.heap.size w w2) := below_from y1.out b2 y1.out.size
  clear o2 b2
  subst hk2
  go_upto_region 9 with (at_builtin; refine append_bytes rfl _ _ rfl w2.heap.size (.slice none 0 0) [] F rfl (Own.nil _ _) q2 c2 (n + 8) rfl HFL.out (own_parts O2.out).2.1 (own_parts O2.out).1 (by rw [HFL.out]; simp; omega) (Nat.le_refl _) ?_; intro v3 w3 h3 b3)
  have h3' : Own w3 w2.heap.size v3 F := h3
  obtain ⟨q3, c3, e3, -⟩ := h3'.shape
  rw [HFL.out] at e3
  rw [e3] at h3' ⊢
  have O3 : Hid (Own w3 w2.heap.size (.slice q3 (n + 8) c3) F) := h3'
  have y3 : Hid (Below w.heap.size w w3) := below_from y2.out b3 y2.out.size
  have S3 : Hid (w2.heap.size ≤ w3.heap.size) := b3.size
  clear h3 h3' b3 e3 v3 O2 y1
  go_upto_region 10 with (at_builtin; refine append_bytes rfl _ _ rfl w2.heap.size (.slice q3 (n + 8) c3) F r rfl O3.out b d m rfl hR.out hd.out (HB.out _ y3.out).1 (by rw [HFL.out, hR.out]; omega) S3.out ?_; intro v4 w4 h4 b4)
  obtain ⟨q4, c4, e4, -⟩ := h4.shape
  rw [HF2.out] at e4
  rw [e4] at h4 ⊢
  have O4 : Hid (Own w4 w2.heap.size (.slice q4 (n + 8 + m) c4) (F ++ r)) := h4
  have y4 : Hid (Below w.heap.size w w4) := y3.out.trans (b4.mono y2.out.size)
  clear h4 b4 e4 v4 O3 y3 S3
  go_upto_region 11 with (go_at_call 9; refine (open_own (F ++ r) l r q4 _ c4 _ _ O4.out (by rw [HF2.out]; omega) HOP.out).mono ?_; rintro e w5 ⟨q5, k5, c5, q6, k6, c6, rfl, o5, o6, b5⟩)
  have z5 : Hid (Has w5 q5 k5 l) := own_has o5
  have z6 : Hid (Has w5 q6 k6 r) := own_has o6
  have O5 : Hid (Own w5 w2.heap.size (.slice q4 (n + 8 + m) c4) (F ++ r)) := O4.out.keep b5
  have y5 : Hid (Below w.heap.size w w5) := below_from y4.out b5 y4.out.size
  clear o5 o6 b5 O4 y4
  go_wp2_with fail
  refine (same_has l q5 a k5 n c5 c w5 z5.out (HA.out _ y5.out) (by rw [hL.out]; omega)).mono ?_
  rintro e w6 ⟨rfl, b6⟩
  have z7 : Hid (Has w6 q6 k6 r) := z6.out.keep b6 (Nat.le_refl _)
  have O6 : Hid (Own w6 w2.heap.size (.slice q4 (n + 8 + m) c4) (F ++ r)) := O5.out.keep b6
  have y6 : Hid (Below w.heap.size w w6) := below_from y5.out b6 y5.out.size
  clear b6 z5 z6 O5 y5
  go_wp2_with fail
  refine (same_has r q6 b k6 m c6 d w6 z7.out (HB.out _ y6.out) (by rw [hR.out]; omega)).mono ?_
  rintro e w7 ⟨rfl, b7⟩
  have O7 : Hid (Own w7 w2.heap.size (.slice q4 (n + 8 + m) c4) (F ++ r)) := O6.out.keep b7
  have y7 : Hid (Below w.heap.size w w7) := below_from y6.out b7 y6.out.size
  clear b7 z7 O6 y6
  by_cases hu : u.toNat = 0
  · have hu0 : ((u.toNat : Int) == 0) = true := by simp; omega
    clear hu
    go_wp2_with fail
    go_ret
    exact ⟨rfl, y7.out⟩
  · have hu0 : ((u.toNat : Int) == 0) = false := by simp; omega
    have HU : Hid (¬ u.toNat = 0) := hu
    clear hu
    go_upto_region 16 with fail
    obtain ⟨k, hk, hkn⟩ : ∃ k : Nat, (t : Int) % ((n : Int) + 8) = (k : Int) ∧ k < n + 8 := ⟨t % (n + 8), by simp, Nat.mod_lt _ (by omega)⟩
    rw [hk]
    clear hk
    obtain ⟨g, hq, hg⟩ := own_pos O7.out (by omega)
    rw [hq] at O7 ⊢
    clear hq q4
    have HG : Hid (w2.heap.size ≤ g) := hg
    clear hg
    obtain ⟨x, hx⟩ : ∃ x, (F ++ r)[k]? = some x := ⟨(F ++ r)[k]'(by rw [HF2.out]; omega), List.getElem?_eq_getElem _⟩
    obtain ⟨h0, h1⟩ := own_cell O7.out hx
    obtain ⟨y, hy, hxy⟩ := turn_byte x u HU.out
    have HNE : Hid ((F ++ r)[k]? ≠ some y) := by rw [hx]; exact fun e => hxy (Option.some.inj e)
    have bx := u8_bd x
    have bu := u8_bd u
    clear hx hxy
    go_upto_region 17 with fail
    have O8 : Hid (Own (w7.setCell ⟨g, k, none⟩ (.int .u8 y.toNat)) w2.heap.size (.slice (some ⟨g, 0, none⟩) (n + 8 + m) c4) ((F ++ r).set k y)) := O7.out.set k y
    have y8 : Hid (Below w.heap.size w (w7.setCell ⟨g, k, none⟩ (.int .u8 y.toNat))) := y7.out.setCell (Nat.le_trans y2.out.size HG.out) _
    have HF3 : Hid (((F ++ r).set k y).length ≤ 140737488355328) := by unfold Hid; rw [List.length_set, HF2.out]; omega
    have HLO := HTL.out k y
    have HHI := HTH.out k y
    generalize hS : (F ++ r).set k y = S at *
    clear hS
    generalize w7.setCell ⟨g, k, none⟩ (.int .u8 y.toNat) = w8 at *
    clear O7 y7 h0 h1 HTL HTH
    cases hO : Crc.opened S with
    | none =>
      have HO : Hid (Crc.opened S = none) := hO
      clear hO HLO HHI
      go_wp2_with fail
      refine (open_row S _ _ _ w8 _ O8.out HF3.out HO.out).mono ?_
      rintro e w9 ⟨rfl, b9⟩
      go_wp2_with fail
      go_ret
      exact ⟨rfl, below_from y8.out b9 y8.out.size⟩
    | some p =>
      obtain ⟨x9, z9⟩ := p
      have HO : Hid (Crc.opened S = some (x9, z9)) := hO
      have hk4 : k < 4 := by
        refine Nat.lt_of_not_le fun h => ?_
        rw [HHI h hkn HNE.out] at hO
        cases hO
      have HX : Hid (x9 ≠ l) := HLO hk4 HNE.out x9 z9 hO
      clear hO HLO HHI
      go_wp2_with fail
      refine (open_own S x9 z9 _ _ _ w8 _ O8.out HF3.out HO.out).mono ?_
      rintro e w9 ⟨q9, k9, c9, p9, j9, d9, rfl, o9, -, b9⟩
      have Z9 : Hid (Has w9 q9 k9 x9) := own_has o9
      have X9 : Hid (x9.length < 1152921504606846976) := by
        have := Crc.fourN_lt S
        unfold Hid
        rw [Crc.opened_len HO.out]
        omega
      have y9 : Hid (Below w.heap.size w w9) := below_from y8.out b9 y8.out.size
      clear o9 b9
      go_wp2_with fail
      refine (same_not x9 l q9 a k9 n c9 c w9 Z9.out (HA.out _ y9.out) X9.out HX.out).mono ?_
      rintro e w10 ⟨rfl, b10⟩
      go_wp2_with fail
      go_ret
      exact ⟨rfl, below_from y9.out b10 y9.out.size⟩

theorem law_opens (l r : List UInt8) (a b : Option Addr) (c d t : Nat) (u : UInt8) (w : World) (ht : t ≤ 65535) (ha : Lies w a l) (hb : Lies w b r) (hc : a = none → c = 0) (hd : b = none → d = 0) :
    Calls Try.prog 4 #[.agg #[.slice a l.length c, .slice b r.length d], .int .u16 t, .int .u8 u.toNat] w fun e w' => e = .returned (.bool true) ∧ Below w.heap.size w w' := by
  by_cases h : 4096 < (l.length : Int)
  · exact opens_long a b c d _ _ _ _ w (.inl h)
  · by_cases h2 : 10000 < (r.length : Int)
    · exact opens_long a b c d _ _ _ _ w (.inr ⟨decide_eq_false h, h2⟩)
    · exact opens_at l r a b c d l.length r.length t u w rfl rfl (by omega) (by omega) ht ha hb hc hd

end Go.Proofs.Ytefidmjekjhdaaa
