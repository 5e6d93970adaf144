/-
  The checkpoint's replace, and Save.
-/
import Derived.Test.YtoiopplhphllhaaSb
import Derived.Test.YtoiopplhphllhaaSc
namespace Go.Proofs.Ytoiopplhphllhaa
open Go.RowKit Go.Maps

def discardD (D : DK) : Int × DK := if (removeD D nmS).1 = 3 then (0, (removeD D nmS).2) else removeD D nmS
def replaceD (D : DK) (b : List UInt8) : Int × DK :=
  if (discardD D).1 ≠ 0 then discardD D else
  if (appendD (discardD D).2 nmS b).1 ≠ 0 then appendD (discardD D).2 nmS b else
  if (syncD (appendD (discardD D).2 nmS b).2 nmS).1 ≠ 0 then syncD (appendD (discardD D).2 nmS b).2 nmS else
  renameD (syncD (appendD (discardD D).2 nmS b).2 nmS).2 nmS nmL
set_option maxHeartbeats 1000000 in
theorem replace_1 (w : World) (p v : Value) (c : Int) (hc : (c != 0) = true) (hc3 : (c != 3) = true) (R1 : World → Prop) (H1 : Hid (Calls Try.prog 20 #[p, .string ⟨#[115, 110, 97, 112, 46, 110, 101, 119]⟩] w fun e w' => e = .returned (.int .i64 c) ∧ R1 w')) :
    Calls Try.prog 26 #[p, v] w fun e w' => e = .returned (.int .i64 c) ∧ R1 w' := by
  go_enter Try.func26, Try.ntmps26
  go_wp2_with (go_at_call 20; refine H1.out.mono ?_)
  rintro e w1 ⟨rfl, h1⟩
  go_wp2_with fail
  go_ret
  exact ⟨rfl, h1⟩
set_option maxHeartbeats 1000000 in
theorem replace_20 (w : World) (p v : Value) (c : Int) (hc : (c != 0) = true) (R1 R3 : World → Prop) (H1 : Hid (Calls Try.prog 20 #[p, .string ⟨#[115, 110, 97, 112, 46, 110, 101, 119]⟩] w fun e w' => e = .returned (.int .i64 0) ∧ R1 w')) (H3 : Hid (∀ w2, R1 w2 → Calls Try.prog 18 #[p, .string ⟨#[115, 110, 97, 112, 46, 110, 101, 119]⟩, v] w2 fun e w' => e = .returned (.int .i64 c) ∧ R3 w')) :
    Calls Try.prog 26 #[p, v] w fun e w' => e = .returned (.int .i64 c) ∧ R3 w' := by
  go_enter Try.func26, Try.ntmps26
  go_wp2_with (go_at_call 20; refine H1.out.mono ?_)
  rintro e w1 ⟨rfl, h1⟩
  have G3 : Hid (Calls Try.prog 18 #[p, .string ⟨#[115, 110, 97, 112, 46, 110, 101, 119]⟩, v] w1 fun e w' => e = .returned (.int .i64 c) ∧ R3 w') := H3.out w1 h1
  clear h1
  go_wp2_with (go_at_call 18; refine G3.out.mono ?_)
  rintro e w3 ⟨rfl, h3⟩
  go_wp2_with fail
  go_ret
  exact ⟨rfl, h3⟩
set_option maxHeartbeats 1000000 in
theorem replace_30 (w : World) (p v : Value) (c : Int) (hc : (c != 0) = true) (R1 R3 R4 : World → Prop) (H1 : Hid (Calls Try.prog 20 #[p, .string ⟨#[115, 110, 97, 112, 46, 110, 101, 119]⟩] w fun e w' => e = .returned (.int .i64 0) ∧ R1 w')) (H3 : Hid (∀ w2, R1 w2 → Calls Try.prog 18 #[p, .string ⟨#[115, 110, 97, 112, 46, 110, 101, 119]⟩, v] w2 fun e w' => e = .returned (.int .i64 0) ∧ R3 w')) (H4 : Hid (∀ w3, R3 w3 → Calls Try.prog 42 #[p, .string ⟨#[115, 110, 97, 112, 46, 110, 101, 119]⟩] w3 fun e w' => e = .returned (.int .i64 c) ∧ R4 w')) :
    Calls Try.prog 26 #[p, v] w fun e w' => e = .returned (.int .i64 c) ∧ R4 w' := by
  go_enter Try.func26, Try.ntmps26
  go_wp2_with (go_at_call 20; refine H1.out.mono ?_)
  rintro e w1 ⟨rfl, h1⟩
  have G3 : Hid (Calls Try.prog 18 #[p, .string ⟨#[115, 110, 97, 112, 46, 110, 101, 119]⟩, v] w1 fun e w' => e = .returned (.int .i64 0) ∧ R3 w') := H3.out w1 h1
  clear h1
  go_wp2_with (go_at_call 18; refine G3.out.mono ?_)
  rintro e w3 ⟨rfl, h3⟩
  have G4 : Hid (Calls Try.prog 42 #[p, .string ⟨#[115, 110, 97, 112, 46, 110, 101, 119]⟩] w3 fun e w' => e = .returned (.int .i64 c) ∧ R4 w') := H4.out w3 h3
  clear h3
  go_wp2_with (go_at_call 42; refine G4.out.mono ?_)
  rintro e w4 ⟨rfl, h4⟩
  go_wp2_with fail
  go_ret
  exact ⟨rfl, h4⟩
set_option maxHeartbeats 1000000 in
theorem replace_40 (w : World) (p v : Value) (c : Int) (R1 R3 R4 R5 : World → Prop) (H1 : Hid (Calls Try.prog 20 #[p, .string ⟨#[115, 110, 97, 112, 46, 110, 101, 119]⟩] w fun e w' => e = .returned (.int .i64 0) ∧ R1 w')) (H3 : Hid (∀ w2, R1 w2 → Calls Try.prog 18 #[p, .string ⟨#[115, 110, 97, 112, 46, 110, 101, 119]⟩, v] w2 fun e w' => e = .returned (.int .i64 0) ∧ R3 w')) (H4 : Hid (∀ w3, R3 w3 → Calls Try.prog 42 #[p, .string ⟨#[115, 110, 97, 112, 46, 110, 101, 119]⟩] w3 fun e w' => e = .returned (.int .i64 0) ∧ R4 w')) (H5 : Hid (∀ w4, R4 w4 → Calls Try.prog 43 #[p, .string ⟨#[115, 110, 97, 112, 46, 110, 101, 119]⟩, .string ⟨#[115, 110, 97, 112]⟩] w4 fun e w' => e = .returned (.int .i64 c) ∧ R5 w')) :
    Calls Try.prog 26 #[p, v] w fun e w' => e = .returned (.int .i64 c) ∧ R5 w' := by
  go_enter Try.func26, Try.ntmps26
  go_wp2_with (go_at_call 20; refine H1.out.mono ?_)
  rintro e w1 ⟨rfl, h1⟩
  have G3 : Hid (Calls Try.prog 18 #[p, .string ⟨#[115, 110, 97, 112, 46, 110, 101, 119]⟩, v] w1 fun e w' => e = .returned (.int .i64 0) ∧ R3 w') := H3.out w1 h1
  clear h1
  go_wp2_with (go_at_call 18; refine G3.out.mono ?_)
  rintro e w3 ⟨rfl, h3⟩
  have G4 : Hid (Calls Try.prog 42 #[p, .string ⟨#[115, 110, 97, 112, 46, 110, 101, 119]⟩] w3 fun e w' => e = .returned (.int .i64 0) ∧ R4 w') := H4.out w3 h3
  clear h3
  go_wp2_with (go_at_call 42; refine G4.out.mono ?_)
  rintro e w4 ⟨rfl, h4⟩
  have G5 : Hid (Calls Try.prog 43 #[p, .string ⟨#[115, 110, 97, 112, 46, 110, 101, 119]⟩, .string ⟨#[115, 110, 97, 112]⟩] w4 fun e w' => e = .returned (.int .i64 c) ∧ R5 w') := H5.out w4 h4
  clear h4
  go_wp2_with (go_at_call 43; refine G5.out.mono ?_)
  rintro e w5 ⟨rfl, h5⟩
  go_wp2_with fail
  go_ret
  exact ⟨rfl, h5⟩
set_option maxHeartbeats 1000000 in
theorem replace_23 (w : World) (p v : Value) (c : Int) (hc : (c != 0) = true) (R1 R3 : World → Prop) (H1 : Hid (Calls Try.prog 20 #[p, .string ⟨#[115, 110, 97, 112, 46, 110, 101, 119]⟩] w fun e w' => e = .returned (.int .i64 3) ∧ R1 w')) (H3 : Hid (∀ w2, R1 w2 → Calls Try.prog 18 #[p, .string ⟨#[115, 110, 97, 112, 46, 110, 101, 119]⟩, v] w2 fun e w' => e = .returned (.int .i64 c) ∧ R3 w')) :
    Calls Try.prog 26 #[p, v] w fun e w' => e = .returned (.int .i64 c) ∧ R3 w' := by
  go_enter Try.func26, Try.ntmps26
  go_wp2_with (go_at_call 20; refine H1.out.mono ?_)
  rintro e w1 ⟨rfl, h1⟩
  have G3 : Hid (Calls Try.prog 18 #[p, .string ⟨#[115, 110, 97, 112, 46, 110, 101, 119]⟩, v] w1 fun e w' => e = .returned (.int .i64 c) ∧ R3 w') := H3.out w1 h1
  clear h1
  go_wp2_with (go_at_call 18; refine G3.out.mono ?_)
  rintro e w3 ⟨rfl, h3⟩
  go_wp2_with fail
  go_ret
  exact ⟨rfl, h3⟩
set_option maxHeartbeats 1000000 in
theorem replace_33 (w : World) (p v : Value) (c : Int) (hc : (c != 0) = true) (R1 R3 R4 : World → Prop) (H1 : Hid (Calls Try.prog 20 #[p, .string ⟨#[115, 110, 97, 112, 46, 110, 101, 119]⟩] w fun e w' => e = .returned (.int .i64 3) ∧ R1 w')) (H3 : Hid (∀ w2, R1 w2 → Calls Try.prog 18 #[p, .string ⟨#[115, 110, 97, 112, 46, 110, 101, 119]⟩, v] w2 fun e w' => e = .returned (.int .i64 0) ∧ R3 w')) (H4 : Hid (∀ w3, R3 w3 → Calls Try.prog 42 #[p, .string ⟨#[115, 110, 97, 112, 46, 110, 101, 119]⟩] w3 fun e w' => e = .returned (.int .i64 c) ∧ R4 w')) :
    Calls Try.prog 26 #[p, v] w fun e w' => e = .returned (.int .i64 c) ∧ R4 w' := by
  go_enter Try.func26, Try.ntmps26
  go_wp2_with (go_at_call 20; refine H1.out.mono ?_)
  rintro e w1 ⟨rfl, h1⟩
  have G3 : Hid (Calls Try.prog 18 #[p, .string ⟨#[115, 110, 97, 112, 46, 110, 101, 119]⟩, v] w1 fun e w' => e = .returned (.int .i64 0) ∧ R3 w') := H3.out w1 h1
  clear h1
  go_wp2_with (go_at_call 18; refine G3.out.mono ?_)
  rintro e w3 ⟨rfl, h3⟩
  have G4 : Hid (Calls Try.prog 42 #[p, .string ⟨#[115, 110, 97, 112, 46, 110, 101, 119]⟩] w3 fun e w' => e = .returned (.int .i64 c) ∧ R4 w') := H4.out w3 h3
  clear h3
  go_wp2_with (go_at_call 42; refine G4.out.mono ?_)
  rintro e w4 ⟨rfl, h4⟩
  go_wp2_with fail
  go_ret
  exact ⟨rfl, h4⟩
set_option maxHeartbeats 1000000 in
theorem replace_43 (w : World) (p v : Value) (c : Int) (R1 R3 R4 R5 : World → Prop) (H1 : Hid (Calls Try.prog 20 #[p, .string ⟨#[115, 110, 97, 112, 46, 110, 101, 119]⟩] w fun e w' => e = .returned (.int .i64 3) ∧ R1 w')) (H3 : Hid (∀ w2, R1 w2 → Calls Try.prog 18 #[p, .string ⟨#[115, 110, 97, 112, 46, 110, 101, 119]⟩, v] w2 fun e w' => e = .returned (.int .i64 0) ∧ R3 w')) (H4 : Hid (∀ w3, R3 w3 → Calls Try.prog 42 #[p, .string ⟨#[115, 110, 97, 112, 46, 110, 101, 119]⟩] w3 fun e w' => e = .returned (.int .i64 0) ∧ R4 w')) (H5 : Hid (∀ w4, R4 w4 → Calls Try.prog 43 #[p, .string ⟨#[115, 110, 97, 112, 46, 110, 101, 119]⟩, .string ⟨#[115, 110, 97, 112]⟩] w4 fun e w' => e = .returned (.int .i64 c) ∧ R5 w')) :
    Calls Try.prog 26 #[p, v] w fun e w' => e = .returned (.int .i64 c) ∧ R5 w' := by
  go_enter Try.func26, Try.ntmps26
  go_wp2_with (go_at_call 20; refine H1.out.mono ?_)
  rintro e w1 ⟨rfl, h1⟩
  have G3 : Hid (Calls Try.prog 18 #[p, .string ⟨#[115, 110, 97, 112, 46, 110, 101, 119]⟩, v] w1 fun e w' => e = .returned (.int .i64 0) ∧ R3 w') := H3.out w1 h1
  clear h1
  go_wp2_with (go_at_call 18; refine G3.out.mono ?_)
  rintro e w3 ⟨rfl, h3⟩
  have G4 : Hid (Calls Try.prog 42 #[p, .string ⟨#[115, 110, 97, 112, 46, 110, 101, 119]⟩] w3 fun e w' => e = .returned (.int .i64 0) ∧ R4 w') := H4.out w3 h3
  clear h3
  go_wp2_with (go_at_call 42; refine G4.out.mono ?_)
  rintro e w4 ⟨rfl, h4⟩
  have G5 : Hid (Calls Try.prog 43 #[p, .string ⟨#[115, 110, 97, 112, 46, 110, 101, 119]⟩, .string ⟨#[115, 110, 97, 112]⟩] w4 fun e w' => e = .returned (.int .i64 c) ∧ R5 w') := H5.out w4 h4
  clear h4
  go_wp2_with (go_at_call 43; refine G5.out.mono ?_)
  rintro e w5 ⟨rfl, h5⟩
  go_wp2_with fail
  go_ret
  exact ⟨rfl, h5⟩

theorem replace_any {w : World} {tg : Nat → Tg} {pb : Nat} {D : DK} (h : Dsk w tg pb D) (q : Option Addr) (n c : Nat) (b : List UInt8) (hn : n < 1152921504606846976) (hb : b.length = n) (hz : q = none → c = 0) (hL : LiesOff w tg q b) :
    Calls Try.prog 26 #[.pointer (some ⟨pb, 0, none⟩), .slice q n c] w fun e w' => e = .returned (.int .i64 (replaceD D b).1) ∧ ∃ tg', Dsk w' tg' pb (replaceD D b).2 ∧ Step tg tg' w w' := by
  have H1 := remove_any h ⟨⟨nmS⟩⟩ (by decide)
  have H1 : Calls Try.prog 20 #[.pointer (some ⟨pb, 0, none⟩), .string ⟨#[115, 110, 97, 112, 46, 110, 101, 119]⟩] w fun e w' => e = .returned (.int .i64 (removeD D nmS).1) ∧ (Dsk w' tg pb (removeD D nmS).2 ∧ Step tg tg w w') := H1
  unfold replaceD discardD
  generalize removeD D nmS = A0 at *
  by_cases e1 : A0.1 = 0 ∨ A0.1 = 3
  · have e1' : (if A0.1 = 3 then ((0 : Int), A0.2) else A0) = (0, A0.2) := by
      rcases e1 with e | e
      · rw [if_neg (by rw [e]; decide)]; rw [← e]
      · rw [if_pos e]
    rw [e1']
    simp only [ne_eq, not_true, if_false]
    have H3 : ∀ w2 : World, (Dsk w2 tg pb A0.2 ∧ Step tg tg w w2) → Calls Try.prog 18 #[.pointer (some ⟨pb, 0, none⟩), .string ⟨#[115, 110, 97, 112, 46, 110, 101, 119]⟩, .slice q n c] w2 fun e w' => e = .returned (.int .i64 (appendD A0.2 nmS b).1) ∧ ∃ tg', Dsk w' tg' pb (appendD A0.2 nmS b).2 ∧ Step tg tg' w w' := by
      rintro w2 ⟨d2, st2⟩
      refine (append_any d2 ⟨⟨nmS⟩⟩ (by decide) q n c b hn hb hz (hL.step st2)).mono ?_
      rintro e w' ⟨rfl, tg', d, st⟩
      exact ⟨rfl, tg', d, st2.trans st⟩
    generalize appendD A0.2 nmS b = A at *
    by_cases e2 : A.1 = 0
    · rw [if_neg (by simpa using e2)]
      rw [e2] at H3
      have H4 : ∀ w3 : World, (∃ tg', Dsk w3 tg' pb A.2 ∧ Step tg tg' w w3) → Calls Try.prog 42 #[.pointer (some ⟨pb, 0, none⟩), .string ⟨#[115, 110, 97, 112, 46, 110, 101, 119]⟩] w3 fun e w' => e = .returned (.int .i64 (syncD A.2 nmS).1) ∧ ∃ tg', Dsk w' tg' pb (syncD A.2 nmS).2 ∧ Step tg tg' w w' := by
        rintro w3 ⟨tg', d3, st3⟩
        refine (sync_any d3 ⟨⟨nmS⟩⟩ (by decide)).mono ?_
        rintro e w' ⟨rfl, d, st⟩
        exact ⟨rfl, tg', d, st3.trans st⟩
      generalize syncD A.2 nmS = S at *
      by_cases e3 : S.1 = 0
      · rw [if_neg (by simpa using e3)]
        rw [e3] at H4
        have H5 : ∀ w4 : World, (∃ tg', Dsk w4 tg' pb S.2 ∧ Step tg tg' w w4) → Calls Try.prog 43 #[.pointer (some ⟨pb, 0, none⟩), .string ⟨#[115, 110, 97, 112, 46, 110, 101, 119]⟩, .string ⟨#[115, 110, 97, 112]⟩] w4 fun e w' => e = .returned (.int .i64 (renameD S.2 nmS nmL).1) ∧ ∃ tg', Dsk w' tg' pb (renameD S.2 nmS nmL).2 ∧ Step tg tg' w w' := by
          rintro w4 ⟨tg', d4, st4⟩
          refine (rename_any d4 ⟨⟨nmS⟩⟩ ⟨⟨nmL⟩⟩ (by decide) (by decide)).mono ?_
          rintro e w' ⟨rfl, tg2, d, st⟩
          exact ⟨rfl, tg2, d, st4.trans st⟩
        rcases e1 with e | e
        · rw [e] at H1; exact replace_40 w _ _ _ _ _ _ _ H1 H3 H4 H5
        · rw [e] at H1; exact replace_43 w _ _ _ _ _ _ _ H1 H3 H4 H5
      · rw [if_pos (by simpa using e3)]
        rcases e1 with e | e
        · rw [e] at H1; exact replace_30 w _ _ _ (by simpa using e3) _ _ _ H1 H3 H4
        · rw [e] at H1; exact replace_33 w _ _ _ (by simpa using e3) _ _ _ H1 H3 H4
    · rw [if_pos (by simpa using e2)]
      rcases e1 with e | e
      · rw [e] at H1; exact replace_20 w _ _ _ (by simpa using e2) _ _ H1 H3
      · rw [e] at H1; exact replace_23 w _ _ _ (by simpa using e2) _ _ H1 H3
  · have h0 : A0.1 ≠ 0 := fun e => e1 (.inl e)
    have h3 : A0.1 ≠ 3 := fun e => e1 (.inr e)
    rw [if_neg h3, if_pos h0]
    refine (replace_1 w _ _ _ (by simpa using h0) (by simpa using h3) _ H1).mono ?_
    rintro e w' ⟨rfl, d, st⟩
    exact ⟨rfl, tg, d, st⟩
end Go.Proofs.Ytoiopplhphllhaa
