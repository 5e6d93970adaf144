/-
  The checkpoint's Save.
-/
import Derived.Test.YtoiopplhphllhaaSd
namespace Go.Proofs.Ytoiopplhphllhaa
open Go.RowKit Go.Maps

/-- the error of a checkpoint that may not be -/
def fitE (n : Int) (ps : List (List UInt8)) : Int := if okNum n = false then 2 else if longP ps = true then 1 else if manyP ps = true then 6 else 0
def saveD (D : DK) (n : Int) (ps : List (List UInt8)) : Int × DK :=
  if D.down = true then (11, D) else if fitE n ps ≠ 0 then (fitE n ps, D) else replaceD D (encB n.toNat ps)
set_option maxHeartbeats 400000 in
theorem save_0 (w : World) (p v : Value) (n : Int) (H : Hid (Calls Try.prog 13 #[p] w fun e w' => e = .returned (.bool true) ∧ w' = w)) :
    Calls Try.prog 11 #[p, .int .i64 n, v] w fun e w' => e = .returned (.int .i64 11) ∧ w' = w := by
  go_enter Try.func11, Try.ntmps11
  go_wp2_with (go_at_call 13; refine H.out.mono ?_)
  rintro e w1 ⟨rfl, rfl⟩
  go_wp2_with fail
  go_ret
  exact ⟨rfl, rfl⟩
theorem save_nil (w : World) (v : Value) (n : Int) : Calls Try.prog 11 #[.pointer none, .int .i64 n, v] w fun e w' => e = .returned (.int .i64 11) ∧ w' = w := save_0 w _ v n (down_nil w)
set_option maxHeartbeats 400000 in
theorem save_1 (w : World) (p v : Value) (n : Int) (H : Hid (Calls Try.prog 13 #[p] w fun e w' => e = .returned (.bool false) ∧ w' = w)) (H1 : Hid (Calls Try.prog 23 #[.int .i64 n] w fun e w' => e = .returned (.bool false) ∧ w' = w)) :
    Calls Try.prog 11 #[p, .int .i64 n, v] w fun e w' => e = .returned (.int .i64 2) ∧ w' = w := by
  go_enter Try.func11, Try.ntmps11
  go_wp2_with (go_at_call 13; refine H.out.mono ?_)
  rintro e w1 ⟨rfl, rfl⟩
  go_wp2_with (go_at_call 23; refine H1.out.mono ?_)
  rintro e w1 ⟨rfl, rfl⟩
  go_wp2_with fail
  go_ret
  exact ⟨rfl, rfl⟩
set_option maxHeartbeats 400000 in
theorem save_2 (w : World) (p v : Value) (n : Int) (H : Hid (Calls Try.prog 13 #[p] w fun e w' => e = .returned (.bool false) ∧ w' = w)) (H1 : Hid (Calls Try.prog 23 #[.int .i64 n] w fun e w' => e = .returned (.bool true) ∧ w' = w)) (H2 : Hid (Calls Try.prog 24 #[v] w fun e w' => e = .returned (.bool true) ∧ w' = w)) :
    Calls Try.prog 11 #[p, .int .i64 n, v] w fun e w' => e = .returned (.int .i64 1) ∧ w' = w := by
  go_enter Try.func11, Try.ntmps11
  go_wp2_with (go_at_call 13; refine H.out.mono ?_)
  rintro e w1 ⟨rfl, rfl⟩
  go_wp2_with (go_at_call 23; refine H1.out.mono ?_)
  rintro e w1 ⟨rfl, rfl⟩
  go_wp2_with (go_at_call 24; refine H2.out.mono ?_)
  rintro e w1 ⟨rfl, rfl⟩
  go_wp2_with fail
  go_ret
  exact ⟨rfl, rfl⟩
set_option maxHeartbeats 400000 in
theorem save_3 (w : World) (p v : Value) (n : Int) (H : Hid (Calls Try.prog 13 #[p] w fun e w' => e = .returned (.bool false) ∧ w' = w)) (H1 : Hid (Calls Try.prog 23 #[.int .i64 n] w fun e w' => e = .returned (.bool true) ∧ w' = w)) (H2 : Hid (Calls Try.prog 24 #[v] w fun e w' => e = .returned (.bool false) ∧ w' = w)) (H3 : Hid (Calls Try.prog 25 #[v] w fun e w' => e = .returned (.bool true) ∧ w' = w)) :
    Calls Try.prog 11 #[p, .int .i64 n, v] w fun e w' => e = .returned (.int .i64 6) ∧ w' = w := by
  go_enter Try.func11, Try.ntmps11
  go_wp2_with (go_at_call 13; refine H.out.mono ?_)
  rintro e w1 ⟨rfl, rfl⟩
  go_wp2_with (go_at_call 23; refine H1.out.mono ?_)
  rintro e w1 ⟨rfl, rfl⟩
  go_wp2_with (go_at_call 24; refine H2.out.mono ?_)
  rintro e w1 ⟨rfl, rfl⟩
  go_wp2_with (go_at_call 25; refine H3.out.mono ?_)
  rintro e w1 ⟨rfl, rfl⟩
  go_wp2_with fail
  go_ret
  exact ⟨rfl, rfl⟩
set_option maxHeartbeats 1000000 in
theorem save_4 (w : World) (p v : Value) (n c : Int) (R1 : Value → World → Prop) (R2 : World → Prop) (H : Hid (Calls Try.prog 13 #[p] w fun e w' => e = .returned (.bool false) ∧ w' = w)) (H1 : Hid (Calls Try.prog 23 #[.int .i64 n] w fun e w' => e = .returned (.bool true) ∧ w' = w)) (H2 : Hid (Calls Try.prog 24 #[v] w fun e w' => e = .returned (.bool false) ∧ w' = w)) (H3 : Hid (Calls Try.prog 25 #[v] w fun e w' => e = .returned (.bool false) ∧ w' = w))
    (H4 : Hid (Calls Try.prog 27 #[.int .i64 n, v] w fun e w' => ∃ u, e = .returned u ∧ R1 u w')) (H5 : Hid (∀ u w2, R1 u w2 → Calls Try.prog 26 #[p, u] w2 fun e w' => e = .returned (.int .i64 c) ∧ R2 w')) :
    Calls Try.prog 11 #[p, .int .i64 n, v] w fun e w' => e = .returned (.int .i64 c) ∧ R2 w' := by
  go_enter Try.func11, Try.ntmps11
  go_wp2_with (go_at_call 13; refine H.out.mono ?_)
  rintro e w1 ⟨rfl, rfl⟩
  go_wp2_with (go_at_call 23; refine H1.out.mono ?_)
  rintro e w1 ⟨rfl, rfl⟩
  go_wp2_with (go_at_call 24; refine H2.out.mono ?_)
  rintro e w1 ⟨rfl, rfl⟩
  go_wp2_with (go_at_call 25; refine H3.out.mono ?_)
  rintro e w1 ⟨rfl, rfl⟩
  go_wp2_with (go_at_call 27; refine H4.out.mono ?_)
  rintro e w2 ⟨u, rfl, h2⟩
  have G5 : Hid (Calls Try.prog 26 #[p, u] w2 fun e w' => e = .returned (.int .i64 c) ∧ R2 w') := H5.out u w2 h2
  clear h2
  go_wp2_with (go_at_call 26; refine G5.out.mono ?_)
  rintro e w3 ⟨rfl, h3⟩
  go_wp2_with fail
  go_ret
  exact ⟨rfl, h3⟩
theorem lo_own2 {w : World} {B n c : Nat} {q : Option Addr} {l : List UInt8} {tg : Nat → Tg} (o : Own w B (.slice q n c) l) (h : ∀ g, B ≤ g → tg g = .no) : LiesOff w tg q l := by
  have hlt := World.ownsRow.lt o
  rcases (own_parts o).1 with h0 | ⟨g, o', rfl, hr⟩
  · exact .inl h0
  · exact .inr ⟨g, o', rfl, hr, (hlt g rfl).2, h g (hlt g rfl).1⟩
theorem longP_no {l : List RC} (h : longP (l.map RC.b) = false) : ∀ r ∈ l, r.b.length ≤ 4096 := by
  intro r hr
  unfold longP at h
  have := List.any_eq_false.1 h r.b (List.mem_map.2 ⟨r, hr, rfl⟩)
  simpa using this
theorem save_any {w : World} {tg : Nat → Tg} {pb : Nat} {D : DK} (h : Dsk w tg pb D) (n : Int) (l : List RC) (q : Option Addr) (c m : Nat) (hl : l.length = m) (hm : m < 1152921504606846976) (hP : Pcs w q l) :
    Calls Try.prog 11 #[.pointer (some ⟨pb, 0, none⟩), .int .i64 n, .slice q m c] w fun e w' => e = .returned (.int .i64 (saveD D n (l.map RC.b)).1) ∧ ∃ tg', Dsk w' tg' pb (saveD D n (l.map RC.b)).2 ∧ Step tg tg' w w' := by
  have H0 : Calls Try.prog 13 #[.pointer (some ⟨pb, 0, none⟩)] w fun e w' => e = .returned (.bool D.down) ∧ w' = w := by
    obtain ⟨_, _, _, dd⟩ := h
    exact down_at w pb _ _ _ _ dd.cell
  unfold saveD
  by_cases hd : D.down = true
  · rw [if_pos hd]
    rw [hd] at H0
    refine (save_0 w _ _ n H0).mono ?_
    rintro e w' ⟨rfl, rfl⟩
    exact ⟨rfl, tg, h, Step.refl _ _⟩
  rw [if_neg hd]
  rw [Bool.not_eq_true] at hd
  rw [hd] at H0
  have H1 := numbered_any n w
  by_cases hn : okNum n = true
  · rw [hn] at H1
    have H2 := tooLong_any l q c m w hl hm hP
    by_cases hL : longP (l.map RC.b) = true
    · have hf : fitE n (l.map RC.b) = 1 := by unfold fitE; rw [if_neg (by simp [hn]), if_pos hL]
      rw [hf, if_pos (by decide)]
      rw [hL] at H2
      refine (save_2 w _ _ n H0 H1 H2).mono ?_
      rintro e w' ⟨rfl, rfl⟩
      exact ⟨rfl, tg, h, Step.refl _ _⟩
    · rw [Bool.not_eq_true] at hL
      have H3 := tooMany_any l q c m w hl hL hP
      rw [hL] at H2
      by_cases hM : manyP (l.map RC.b) = true
      · have hf : fitE n (l.map RC.b) = 6 := by unfold fitE; rw [if_neg (by simp [hn]), if_neg (by simp [hL]), if_pos hM]
        rw [hf, if_pos (by decide)]
        rw [hM] at H3
        refine (save_3 w _ _ n H0 H1 H2 H3).mono ?_
        rintro e w' ⟨rfl, rfl⟩
        exact ⟨rfl, tg, h, Step.refl _ _⟩
      · rw [Bool.not_eq_true] at hM
        have hf : fitE n (l.map RC.b) = 0 := by unfold fitE; rw [if_neg (by simp [hn]), if_neg (by simp [hL]), if_neg (by simp [hM])]
        rw [hf, if_neg (by decide)]
        rw [hM] at H3
        have hM' := hM
        unfold manyP at hM'
        simp only [Bool.or_eq_false_iff, decide_eq_false_iff_not, List.length_map] at hM'
        have hn' := hn
        unfold okNum at hn'
        simp only [Bool.and_eq_true, decide_eq_true_eq] at hn'
        have H4 := encode_any n.toNat (by omega) l q c m w hl (by omega) (longP_no hL) (show sumL (l.map RC.b) ≤ 524288 by omega) hP
        rw [show ((n.toNat : Nat) : Int) = n by omega] at H4
        refine save_4 w _ _ n _ _ _ H0 H1 H2 H3 H4 ?_
        rintro u w2 ⟨o2, b2⟩
        obtain ⟨q2, c2, rfl, l2, z2, -⟩ := o2.shape
        have hlen : (encB n.toNat (l.map RC.b)).length ≤ 24 + 524288 + 8 * 16384 := by
          have : (encB n.toNat (l.map RC.b)).length = 24 + sumL (l.map RC.b) + 8 * (l.map RC.b).length := encT_len _ _ _
          rw [this, List.length_map]
          omega
        refine (replace_any (h.keepB b2) q2 _ c2 (encB n.toNat (l.map RC.b)) (by omega) rfl z2 (lo_own2 o2 fun g hg => ?_)).mono ?_
        · obtain ⟨_, _, _, dd⟩ := h
          exact new_no dd.lt hg
        · rintro e w' ⟨rfl, tg', d, st⟩
          exact ⟨rfl, tg', d, (Step.of_below _ b2).trans st⟩
  · rw [Bool.not_eq_true] at hn
    rw [hn] at H1
    have hf : fitE n (l.map RC.b) = 2 := by unfold fitE; rw [if_pos hn]
    rw [hf, if_pos (by decide)]
    refine (save_1 w _ _ n H0 H1).mono ?_
    rintro e w' ⟨rfl, rfl⟩
    exact ⟨rfl, tg, h, Step.refl _ _⟩
end Go.Proofs.Ytoiopplhphllhaa
