/-
  The journal's replace.
-/
import Derived.Test.YtplcpjngpkghmaaJb
namespace Go.Proofs.Ytplcpjngpkghmaa
open Go.RowKit Go.Maps

set_option maxHeartbeats 1000000 in
set_option maxRecDepth 100000 in
theorem encode_zero (first : Nat) (hf : first < 9223372036854775808) (a : Option Addr) (c : Nat) (w : World) :
    Calls Try.prog 60 #[.int .i64 first, .slice a 0 c] w fun e w' => ∃ v, e = .returned v ∧ Own w' w.heap.size v (encB first []) ∧ Below w.heap.size w w' := by
  go_enter Try.func60, Try.ntmps60
  go_wp2_with (go_at_call 69; refine (num_out first hf w).mono ?_)
  rintro e w1 ⟨q1, c1, rfl, o1, b1⟩
  have F1 : Hid (Calls Try.prog 43 #[.slice q1 8 c1] w1 fun e w' => ∃ q c', e = .returned (.tuple #[.slice q 16 c', .int .i64 0]) ∧ Own w' w1.heap.size (.slice q 16 c') (Crc.frame (num8 first)) ∧ Below w1.heap.size w1 w') := frame_any (num8 first) q1 c1 w1 (show 8 ≤ 4096 by omega) (own_parts o1).1 (own_parts o1).2.1
  have B1 : Hid (Below w.heap.size w w1) := b1
  clear o1 b1
  go_wp2_with (go_at_call 43; refine F1.out.mono ?_)
  rintro e w2 ⟨q2, c2, rfl, o2, b2⟩
  have B2 : Hid (Below w.heap.size w w2) := below_from B1.out b2 B1.out.size
  have O2 : Hid (Own w2 w.heap.size (.slice q2 16 c2) (encB first [])) := by
    refine (?_ : Own w2 w.heap.size (.slice q2 16 c2) (encB first []))
    have := o2.low B1.out.size
    unfold encB
    simpa using this
  clear o2 b2 F1 B1
  go_wp2_with fail
  go_rounds 1
  go_ret
  exact ⟨_, rfl, O2.out, B2.out⟩

/-- records that lie off a disk -/
def RecOff (w : World) (tg : Nat → Tg) (v : Value) (l : List RC) : Prop :=
  ((∃ a c, v = .slice a 0 c ∧ l = []) ∨ ∃ g o c, v = .slice (some ⟨g, o, none⟩) l.length c ∧ RowV w g o (l.map RC.v) ∧ g < w.heap.size ∧ tg g = .no) ∧ l.length ≤ 1048576 ∧ ∀ r ∈ l, LiesOff w tg r.a r.b ∧ (r.a = none → r.c = 0) ∧ r.b.length ≤ 4080
theorem RecOff.step {w w' : World} {tg tg' : Nat → Tg} {v : Value} {l : List RC} (h : RecOff w tg v l) (st : Step tg tg' w w') : RecOff w' tg' v l := by
  refine ⟨?_, h.2.1, fun r hr => ⟨(h.2.2 r hr).1.step st, (h.2.2 r hr).2⟩⟩
  rcases h.1 with h1 | ⟨g, o, c, h1, h2, h3, h4⟩
  · exact .inl h1
  · refine .inr ⟨g, o, c, h1, fun k u hu => ?_, Nat.lt_of_lt_of_le h3 st.1.size, ?_⟩
    · exact (World.cell?_of_block (a := ⟨g, o + k, none⟩) (st.1.block g h3 fun e => e h4)).trans (h2 k u hu)
    · by_cases h5 : tg' g = .no
      · exact h5
      · rcases st.2 g h5 with h6 | h6
        · exact absurd h4 h6
        · omega
theorem encode_any {w : World} {tg : Nat → Tg} {v : Value} {l : List RC} (h : RecOff w tg v l) (first : Nat) (hf : first < 9223372036854775808) :
    Calls Try.prog 60 #[.int .i64 first, v] w fun e w' => ∃ v, e = .returned v ∧ Own w' w.heap.size v (encB first (l.map RC.b)) ∧ Below w.heap.size w w' := by
  rcases h.1 with ⟨a, c, rfl, rfl⟩ | ⟨g, o, c, rfl, h2, h3, h4⟩
  · exact encode_zero first hf a c w
  · exact encode_some first hf l g o c l.length w rfl h.2.1 h2 fun r hr => ⟨(h.2.2 r hr).1.lies, (h.2.2 r hr).2.1, (h.2.2 r hr).2.2⟩

def replaceD (D : DK) (first : Nat) (recs : List (List UInt8)) : Int × DK :=
  if (discardD D).1 ≠ 0 then discardD D else
  if (appendD (discardD D).2 nmS (encB first recs)).1 ≠ 0 then appendD (discardD D).2 nmS (encB first recs) else
  if (syncD (appendD (discardD D).2 nmS (encB first recs)).2 nmS).1 ≠ 0 then syncD (appendD (discardD D).2 nmS (encB first recs)).2 nmS else
  renameD (syncD (appendD (discardD D).2 nmS (encB first recs)).2 nmS).2 nmS nmL

set_option maxHeartbeats 1000000 in
theorem replace_1 (w : World) (p v : Value) (f c : Int) (hc : (c != 0) = true) (R : World → Prop) (H1 : Hid (Calls Try.prog 59 #[p] w fun e w' => e = .returned (.int .i64 c) ∧ R w')) :
    Calls Try.prog 46 #[p, .int .i64 f, v] w fun e w' => e = .returned (.int .i64 c) ∧ R w' := by
  go_enter Try.func46, Try.ntmps46
  go_wp2_with (go_at_call 59; refine H1.out.mono ?_)
  rintro e w1 ⟨rfl, h1⟩
  go_wp2_with fail
  go_ret
  exact ⟨rfl, h1⟩
set_option maxHeartbeats 1000000 in
theorem replace_2 (w : World) (p v : Value) (f c : Int) (hc : (c != 0) = true) (R1 R3 : World → Prop) (R2 : World → Value → Prop) (H1 : Hid (Calls Try.prog 59 #[p] w fun e w' => e = .returned (.int .i64 0) ∧ R1 w'))
    (H2 : Hid (∀ w1, R1 w1 → Calls Try.prog 60 #[.int .i64 f, v] w1 fun e w' => ∃ u, e = .returned u ∧ R2 w' u)) (H3 : Hid (∀ w2 u, R2 w2 u → Calls Try.prog 28 #[p, .string ⟨#[108, 111, 103, 46, 110, 101, 119]⟩, u] w2 fun e w' => e = .returned (.int .i64 c) ∧ R3 w')) :
    Calls Try.prog 46 #[p, .int .i64 f, v] w fun e w' => e = .returned (.int .i64 c) ∧ R3 w' := by
  go_enter Try.func46, Try.ntmps46
  go_wp2_with (go_at_call 59; refine H1.out.mono ?_)
  rintro e w1 ⟨rfl, h1⟩
  have G2 : Hid (Calls Try.prog 60 #[.int .i64 f, v] w1 fun e w' => ∃ u, e = .returned u ∧ R2 w' u) := H2.out w1 h1
  clear h1
  go_wp2_with (go_at_call 60; refine G2.out.mono ?_)
  rintro e w2 ⟨u, rfl, h2⟩
  have G3 : Hid (Calls Try.prog 28 #[p, .string ⟨#[108, 111, 103, 46, 110, 101, 119]⟩, u] w2 fun e w' => e = .returned (.int .i64 c) ∧ R3 w') := H3.out w2 u h2
  clear h2
  go_wp2_with (go_at_call 28; refine G3.out.mono ?_)
  rintro e w3 ⟨rfl, h3⟩
  go_wp2_with fail
  go_ret
  exact ⟨rfl, h3⟩
set_option maxHeartbeats 1000000 in
theorem replace_3 (w : World) (p v : Value) (f c : Int) (hc : (c != 0) = true) (R1 R3 R4 : World → Prop) (R2 : World → Value → Prop) (H1 : Hid (Calls Try.prog 59 #[p] w fun e w' => e = .returned (.int .i64 0) ∧ R1 w'))
    (H2 : Hid (∀ w1, R1 w1 → Calls Try.prog 60 #[.int .i64 f, v] w1 fun e w' => ∃ u, e = .returned u ∧ R2 w' u)) (H3 : Hid (∀ w2 u, R2 w2 u → Calls Try.prog 28 #[p, .string ⟨#[108, 111, 103, 46, 110, 101, 119]⟩, u] w2 fun e w' => e = .returned (.int .i64 0) ∧ R3 w'))
    (H4 : Hid (∀ w3, R3 w3 → Calls Try.prog 29 #[p, .string ⟨#[108, 111, 103, 46, 110, 101, 119]⟩] w3 fun e w' => e = .returned (.int .i64 c) ∧ R4 w')) :
    Calls Try.prog 46 #[p, .int .i64 f, v] w fun e w' => e = .returned (.int .i64 c) ∧ R4 w' := by
  go_enter Try.func46, Try.ntmps46
  go_wp2_with (go_at_call 59; refine H1.out.mono ?_)
  rintro e w1 ⟨rfl, h1⟩
  have G2 : Hid (Calls Try.prog 60 #[.int .i64 f, v] w1 fun e w' => ∃ u, e = .returned u ∧ R2 w' u) := H2.out w1 h1
  clear h1
  go_wp2_with (go_at_call 60; refine G2.out.mono ?_)
  rintro e w2 ⟨u, rfl, h2⟩
  have G3 : Hid (Calls Try.prog 28 #[p, .string ⟨#[108, 111, 103, 46, 110, 101, 119]⟩, u] w2 fun e w' => e = .returned (.int .i64 0) ∧ R3 w') := H3.out w2 u h2
  clear h2
  go_wp2_with (go_at_call 28; refine G3.out.mono ?_)
  rintro e w3 ⟨rfl, h3⟩
  have G4 : Hid (Calls Try.prog 29 #[p, .string ⟨#[108, 111, 103, 46, 110, 101, 119]⟩] w3 fun e w' => e = .returned (.int .i64 c) ∧ R4 w') := H4.out w3 h3
  clear h3
  go_wp2_with (go_at_call 29; refine G4.out.mono ?_)
  rintro e w4 ⟨rfl, h4⟩
  go_wp2_with fail
  go_ret
  exact ⟨rfl, h4⟩
set_option maxHeartbeats 1000000 in
theorem replace_4 (w : World) (p v : Value) (f c : Int) (R1 R3 R4 R5 : World → Prop) (R2 : World → Value → Prop) (H1 : Hid (Calls Try.prog 59 #[p] w fun e w' => e = .returned (.int .i64 0) ∧ R1 w'))
    (H2 : Hid (∀ w1, R1 w1 → Calls Try.prog 60 #[.int .i64 f, v] w1 fun e w' => ∃ u, e = .returned u ∧ R2 w' u)) (H3 : Hid (∀ w2 u, R2 w2 u → Calls Try.prog 28 #[p, .string ⟨#[108, 111, 103, 46, 110, 101, 119]⟩, u] w2 fun e w' => e = .returned (.int .i64 0) ∧ R3 w'))
    (H4 : Hid (∀ w3, R3 w3 → Calls Try.prog 29 #[p, .string ⟨#[108, 111, 103, 46, 110, 101, 119]⟩] w3 fun e w' => e = .returned (.int .i64 0) ∧ R4 w'))
    (H5 : Hid (∀ w4, R4 w4 → Calls Try.prog 61 #[p, .string ⟨#[108, 111, 103, 46, 110, 101, 119]⟩, .string ⟨#[108, 111, 103]⟩] w4 fun e w' => e = .returned (.int .i64 c) ∧ R5 w')) :
    Calls Try.prog 46 #[p, .int .i64 f, v] w fun e w' => e = .returned (.int .i64 c) ∧ R5 w' := by
  go_enter Try.func46, Try.ntmps46
  go_wp2_with (go_at_call 59; refine H1.out.mono ?_)
  rintro e w1 ⟨rfl, h1⟩
  have G2 : Hid (Calls Try.prog 60 #[.int .i64 f, v] w1 fun e w' => ∃ u, e = .returned u ∧ R2 w' u) := H2.out w1 h1
  clear h1
  go_wp2_with (go_at_call 60; refine G2.out.mono ?_)
  rintro e w2 ⟨u, rfl, h2⟩
  have G3 : Hid (Calls Try.prog 28 #[p, .string ⟨#[108, 111, 103, 46, 110, 101, 119]⟩, u] w2 fun e w' => e = .returned (.int .i64 0) ∧ R3 w') := H3.out w2 u h2
  clear h2
  go_wp2_with (go_at_call 28; refine G3.out.mono ?_)
  rintro e w3 ⟨rfl, h3⟩
  have G4 : Hid (Calls Try.prog 29 #[p, .string ⟨#[108, 111, 103, 46, 110, 101, 119]⟩] w3 fun e w' => e = .returned (.int .i64 0) ∧ R4 w') := H4.out w3 h3
  clear h3
  go_wp2_with (go_at_call 29; refine G4.out.mono ?_)
  rintro e w4 ⟨rfl, h4⟩
  have G5 : Hid (Calls Try.prog 61 #[p, .string ⟨#[108, 111, 103, 46, 110, 101, 119]⟩, .string ⟨#[108, 111, 103]⟩] w4 fun e w' => e = .returned (.int .i64 c) ∧ R5 w') := H5.out w4 h4
  clear h4
  go_wp2_with (go_at_call 61; refine G5.out.mono ?_)
  rintro e w5 ⟨rfl, h5⟩
  go_wp2_with fail
  go_ret
  exact ⟨rfl, h5⟩

theorem replace_any {w : World} {tg : Nat → Tg} {pb : Nat} {D : DK} (h : Dsk w tg pb D) (first : Nat) (hf : first < 9223372036854775808) (v : Value) (l : List RC) (hR : RecOff w tg v l) :
    Calls Try.prog 46 #[.pointer (some ⟨pb, 0, none⟩), .int .i64 first, v] w fun e w' => e = .returned (.int .i64 (replaceD D first (l.map RC.b)).1) ∧ ∃ tg', Dsk w' tg' pb (replaceD D first (l.map RC.b)).2 ∧ Step tg tg' w w' := by
  have hlen : (encB first (l.map RC.b)).length ≤ 16 + 4088 * 1048576 := Nat.le_trans (encB_len first l fun r hr => (hR.2.2 r hr).2.2) (by have := hR.2.1; omega)
  have H1 := discard_any h
  unfold replaceD
  by_cases e1 : (discardD D).1 = 0
  · rw [if_neg (by simpa using e1)]
    rw [e1] at H1
    have H2 : ∀ w1, (Dsk w1 tg pb (discardD D).2 ∧ Step tg tg w w1) → Calls Try.prog 60 #[.int .i64 first, v] w1 fun e w' => ∃ u, e = .returned u ∧ (∃ q c, u = .slice q (encB first (l.map RC.b)).length c ∧ (q = none → c = 0) ∧ LiesOff w' tg q (encB first (l.map RC.b)) ∧ Dsk w' tg pb (discardD D).2 ∧ Step tg tg w w') := by
      rintro w1 ⟨d1, st1⟩
      refine (encode_any (hR.step st1) first hf).mono ?_
      rintro e w' ⟨u, rfl, o, b⟩
      obtain ⟨q, c, rfl, hL, hz, hlt⟩ := o.shape
      refine ⟨_, rfl, q, c, rfl, hz, ?_, d1.keepB b, st1.trans (Step.of_below _ b)⟩
      rcases hL with h0 | ⟨g, o', rfl, hr⟩
      · exact .inl h0
      · have h1 := hlt g rfl
        refine .inr ⟨g, o', rfl, hr, h1.2, ?_⟩
        obtain ⟨_, _, _, dd⟩ := d1
        exact new_no dd.lt h1.1
    have H3 : ∀ (w2 : World) (u : Value), (∃ q c, u = .slice q (encB first (l.map RC.b)).length c ∧ (q = none → c = 0) ∧ LiesOff w2 tg q (encB first (l.map RC.b)) ∧ Dsk w2 tg pb (discardD D).2 ∧ Step tg tg w w2) → Calls Try.prog 28 #[.pointer (some ⟨pb, 0, none⟩), .string ⟨#[108, 111, 103, 46, 110, 101, 119]⟩, u] w2 fun e w' => e = .returned (.int .i64 (appendD (discardD D).2 nmS (encB first (l.map RC.b))).1) ∧ ∃ tg', Dsk w' tg' pb (appendD (discardD D).2 nmS (encB first (l.map RC.b))).2 ∧ Step tg tg' w w' := by
      rintro w2 u ⟨q, c, rfl, hz, hL, d2, st2⟩
      refine (append_any d2 ⟨⟨nmS⟩⟩ (by decide) q _ c (encB first (l.map RC.b)) (by omega) rfl hz hL).mono ?_
      rintro e w' ⟨rfl, tg', d, st⟩
      exact ⟨rfl, tg', d, st2.trans st⟩
    generalize appendD (discardD D).2 nmS (encB first (l.map RC.b)) = A at *
    by_cases e2 : A.1 = 0
    · rw [if_neg (by simpa using e2)]
      rw [e2] at H3
      have H4 : ∀ w3, (∃ tg', Dsk w3 tg' pb A.2 ∧ Step tg tg' w w3) → Calls Try.prog 29 #[.pointer (some ⟨pb, 0, none⟩), .string ⟨#[108, 111, 103, 46, 110, 101, 119]⟩] w3 fun e w' => e = .returned (.int .i64 (syncD A.2 nmS).1) ∧ ∃ tg', Dsk w' tg' pb (syncD A.2 nmS).2 ∧ Step tg tg' w w' := by
        rintro w3 ⟨tg', d3, st3⟩
        refine (sync_any d3 ⟨⟨nmS⟩⟩ (by decide)).mono ?_
        rintro e w' ⟨rfl, d, st⟩
        exact ⟨rfl, tg', d, st3.trans st⟩
      generalize syncD A.2 nmS = S at *
      by_cases e3 : S.1 = 0
      · rw [if_neg (by simpa using e3)]
        rw [e3] at H4
        refine replace_4 w _ v _ _ _ _ _ _ _ H1 H2 H3 H4 ?_
        rintro w4 ⟨tg', d4, st4⟩
        refine (rename_any d4 ⟨⟨nmS⟩⟩ ⟨⟨nmL⟩⟩ (by decide) (by decide)).mono ?_
        rintro e w' ⟨rfl, tg2, d, st⟩
        exact ⟨rfl, tg2, d, st4.trans st⟩
      · rw [if_pos (by simpa using e3)]
        exact replace_3 w _ v _ _ (by simpa using e3) _ _ _ _ H1 H2 H3 H4
    · rw [if_pos (by simpa using e2)]
      exact replace_2 w _ v _ _ (by simpa using e2) _ _ _ H1 H2 H3
  · rw [if_pos (by simpa using e1)]
    refine (replace_1 w _ v _ _ (by simpa using e1) _ H1).mono ?_
    rintro e w' ⟨rfl, d, st⟩
    exact ⟨rfl, tg, d, st⟩
end Go.Proofs.Ytplcpjngpkghmaa
