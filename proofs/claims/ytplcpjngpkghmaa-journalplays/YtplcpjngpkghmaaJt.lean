/-
  The journal's mend.
-/
import Derived.Test.YtplcpjngpkghmaaJs
import Derived.Test.YtplcpjngpkghmaaJn
namespace Go.Proofs.Ytplcpjngpkghmaa
open Go.RowKit Go.Maps

def mendD (D : DK) (wh all : Nat) : Int × DK :=
  if (discardD D).1 ≠ 0 then discardD D else
  if wh < all then (if (truncD (discardD D).2 nmL wh).1 ≠ 0 then truncD (discardD D).2 nmL wh else syncD (truncD (discardD D).2 nmL wh).2 nmL) else syncD (discardD D).2 nmL
set_option maxHeartbeats 1000000 in
theorem mend_1 (w : World) (p : Value) (wh all : Nat) (c : Int) (hc : (c != 0) = true) (R1 : World → Prop) (H1 : Hid (Calls Try.prog 59 #[p] w fun e w' => e = .returned (.int .i64 c) ∧ R1 w')) :
    Calls Try.prog 63 #[p, .int .i64 wh, .int .i64 all] w fun e w' => e = .returned (.int .i64 c) ∧ R1 w' := by
  go_enter Try.func63, Try.ntmps63
  go_wp2_with (go_at_call 59; refine H1.out.mono ?_)
  first | rintro e w1 rfl h1 | rintro e w1 ⟨rfl, h1⟩
  go_wp2_with fail
  go_ret
  exact ⟨rfl, h1⟩
set_option maxHeartbeats 1000000 in
theorem mend_2 (w : World) (p : Value) (wh all : Nat) (c : Int) (hw : ¬ (wh : Int) < (all : Int)) (R1 R3 : World → Prop) (H1 : Hid (Calls Try.prog 59 #[p] w fun e w' => e = .returned (.int .i64 0) ∧ R1 w')) (H3 : Hid (∀ w3, R1 w3 → Calls Try.prog 29 #[p, .string ⟨#[108, 111, 103]⟩] w3 fun e w' => e = .returned (.int .i64 c) ∧ R3 w')) :
    Calls Try.prog 63 #[p, .int .i64 wh, .int .i64 all] w fun e w' => e = .returned (.int .i64 c) ∧ R3 w' := by
  go_enter Try.func63, Try.ntmps63
  go_wp2_with (go_at_call 59; refine H1.out.mono ?_)
  first | rintro e w1 rfl h1 | rintro e w1 ⟨rfl, h1⟩
  have G3 : Hid (Calls Try.prog 29 #[p, .string ⟨#[108, 111, 103]⟩] w1 fun e w' => e = .returned (.int .i64 c) ∧ R3 w') := H3.out w1 h1
  clear h1
  go_wp2_with (go_at_call 29; refine G3.out.mono ?_)
  first | rintro e w3 rfl h3 | rintro e w3 ⟨rfl, h3⟩
  go_wp2_with fail
  go_ret
  exact ⟨rfl, h3⟩
set_option maxHeartbeats 1000000 in
theorem mend_3 (w : World) (p : Value) (wh all : Nat) (c : Int) (hw : (wh : Int) < (all : Int)) (hc : (c != 0) = true) (R1 R2 : World → Prop) (H1 : Hid (Calls Try.prog 59 #[p] w fun e w' => e = .returned (.int .i64 0) ∧ R1 w')) (H2 : Hid (∀ w2, R1 w2 → Calls Try.prog 72 #[p, .string ⟨#[108, 111, 103]⟩, .int .i64 wh] w2 fun e w' => e = .returned (.int .i64 c) ∧ R2 w')) :
    Calls Try.prog 63 #[p, .int .i64 wh, .int .i64 all] w fun e w' => e = .returned (.int .i64 c) ∧ R2 w' := by
  go_enter Try.func63, Try.ntmps63
  go_wp2_with (go_at_call 59; refine H1.out.mono ?_)
  first | rintro e w1 rfl h1 | rintro e w1 ⟨rfl, h1⟩
  have G2 : Hid (Calls Try.prog 72 #[p, .string ⟨#[108, 111, 103]⟩, .int .i64 wh] w1 fun e w' => e = .returned (.int .i64 c) ∧ R2 w') := H2.out w1 h1
  clear h1
  go_wp2_with (go_at_call 72; refine G2.out.mono ?_)
  first | rintro e w2 rfl h2 | rintro e w2 ⟨rfl, h2⟩
  go_wp2_with fail
  go_ret
  exact ⟨rfl, h2⟩
set_option maxHeartbeats 1000000 in
theorem mend_4 (w : World) (p : Value) (wh all : Nat) (c : Int) (hw : (wh : Int) < (all : Int)) (R1 R2 R3 : World → Prop) (H1 : Hid (Calls Try.prog 59 #[p] w fun e w' => e = .returned (.int .i64 0) ∧ R1 w')) (H2 : Hid (∀ w2, R1 w2 → Calls Try.prog 72 #[p, .string ⟨#[108, 111, 103]⟩, .int .i64 wh] w2 fun e w' => e = .returned (.int .i64 0) ∧ R2 w')) (H3 : Hid (∀ w3, R2 w3 → Calls Try.prog 29 #[p, .string ⟨#[108, 111, 103]⟩] w3 fun e w' => e = .returned (.int .i64 c) ∧ R3 w')) :
    Calls Try.prog 63 #[p, .int .i64 wh, .int .i64 all] w fun e w' => e = .returned (.int .i64 c) ∧ R3 w' := by
  go_enter Try.func63, Try.ntmps63
  go_wp2_with (go_at_call 59; refine H1.out.mono ?_)
  first | rintro e w1 rfl h1 | rintro e w1 ⟨rfl, h1⟩
  have G2 : Hid (Calls Try.prog 72 #[p, .string ⟨#[108, 111, 103]⟩, .int .i64 wh] w1 fun e w' => e = .returned (.int .i64 0) ∧ R2 w') := H2.out w1 h1
  clear h1
  go_wp2_with (go_at_call 72; refine G2.out.mono ?_)
  first | rintro e w2 rfl h2 | rintro e w2 ⟨rfl, h2⟩
  have G3 : Hid (Calls Try.prog 29 #[p, .string ⟨#[108, 111, 103]⟩] w2 fun e w' => e = .returned (.int .i64 c) ∧ R3 w') := H3.out w2 h2
  clear h2
  go_wp2_with (go_at_call 29; refine G3.out.mono ?_)
  first | rintro e w3 rfl h3 | rintro e w3 ⟨rfl, h3⟩
  go_wp2_with fail
  go_ret
  exact ⟨rfl, h3⟩
theorem mend_any {w : World} {tg : Nat → Tg} {pb : Nat} {D : DK} (h : Dsk w tg pb D) (wh all : Nat) :
    Calls Try.prog 63 #[.pointer (some ⟨pb, 0, none⟩), .int .i64 wh, .int .i64 all] w fun e w' => e = .returned (.int .i64 (mendD D wh all).1) ∧ (Dsk w' tg pb (mendD D wh all).2 ∧ Step tg tg w w') := by
  have H1 := discard_any h
  unfold mendD
  generalize discardD D = A at *
  by_cases e1 : A.1 = 0
  · rw [if_neg (by simpa using e1)]
    rw [e1] at H1
    by_cases hw : wh < all
    · rw [if_pos hw]
      have H2 : ∀ w2 : World, (Dsk w2 tg pb A.2 ∧ Step tg tg w w2) → Calls Try.prog 72 #[.pointer (some ⟨pb, 0, none⟩), .string ⟨#[108, 111, 103]⟩, .int .i64 wh] w2 fun e w' => e = .returned (.int .i64 (truncD A.2 nmL wh).1) ∧ (Dsk w' tg pb (truncD A.2 nmL wh).2 ∧ Step tg tg w w') := by
        rintro w2 ⟨d2, st2⟩
        refine (trunc_any d2 ⟨⟨nmL⟩⟩ wh (by decide)).mono ?_
        rintro e w' ⟨rfl, d, st⟩
        exact ⟨rfl, d, st2.trans st⟩
      generalize truncD A.2 nmL wh = T at *
      by_cases e2 : T.1 = 0
      · rw [if_neg (by simpa using e2)]
        rw [e2] at H2
        have H3 : ∀ w3 : World, (Dsk w3 tg pb T.2 ∧ Step tg tg w w3) → Calls Try.prog 29 #[.pointer (some ⟨pb, 0, none⟩), .string ⟨#[108, 111, 103]⟩] w3 fun e w' => e = .returned (.int .i64 (syncD T.2 nmL).1) ∧ (Dsk w' tg pb (syncD T.2 nmL).2 ∧ Step tg tg w w') := by
          rintro w3 ⟨d3, st3⟩
          refine (sync_any d3 ⟨⟨nmL⟩⟩ (by decide)).mono ?_
          rintro e w' ⟨rfl, d, st⟩
          exact ⟨rfl, d, st3.trans st⟩
        exact mend_4 w _ wh all _ (by omega) _ _ _ H1 H2 H3
      · rw [if_pos (by simpa using e2)]
        exact mend_3 w _ wh all _ (by omega) (by simpa using e2) _ _ H1 H2
    · rw [if_neg hw]
      have H3 : ∀ w3 : World, (Dsk w3 tg pb A.2 ∧ Step tg tg w w3) → Calls Try.prog 29 #[.pointer (some ⟨pb, 0, none⟩), .string ⟨#[108, 111, 103]⟩] w3 fun e w' => e = .returned (.int .i64 (syncD A.2 nmL).1) ∧ (Dsk w' tg pb (syncD A.2 nmL).2 ∧ Step tg tg w w') := by
        rintro w3 ⟨d3, st3⟩
        refine (sync_any d3 ⟨⟨nmL⟩⟩ (by decide)).mono ?_
        rintro e w' ⟨rfl, d, st⟩
        exact ⟨rfl, d, st3.trans st⟩
      exact mend_2 w _ wh all _ (by omega) _ _ H1 H3
  · rw [if_pos (by simpa using e1)]
    exact mend_1 w _ wh all _ (by simpa using e1) _ H1
/-- mend without a fuse: the file has what is whole, synced -/
theorem mend_up {D : DK} {o y : OB} {b t : List UInt8} {k : Nat} (hd : D.down = false) (hu : D.fuse = none) (h : D.fs = fsN o (some (b ++ t, k)) y) : ∃ D', mendD D b.length (b ++ t).length = (0, D') ∧ Up D' o b b.length := by
  unfold mendD
  rcases discard_N hd h with ⟨a1, a2, a3, a4⟩ | ⟨a1, a2, a3, a4⟩
  · rw [if_neg (by simp [a1])]
    have hu2 := a4 hu
    generalize (discardD D).2 = A at *
    by_cases hw : b.length < (b ++ t).length
    · rw [if_pos hw]
      have hbn : burn A = (true, A) := by unfold burn; rw [hu2]
      have hr : truncD A nmL b.length = (0, ⟨fsN o (some (b, min k b.length)) none, A.down, A.fuse⟩) := by
        unfold truncD
        rw [a3, a2, fnd_L]
        simp only [Bool.false_eq_true, if_false, Option.map_some]
        rw [if_neg (by rw [List.length_append]; omega), hbn, upd_L]
        simp [a3]
      rw [hr, if_neg (by simp)]
      obtain ⟨D', h1, h2⟩ := Up.sync (D := ⟨fsN o (some (b, min k b.length)) none, A.down, A.fuse⟩) ⟨rfl, a3, hu2⟩
      exact ⟨D', h1, h2⟩
    · rw [if_neg hw]
      have ht : t = [] := by
        rw [List.length_append] at hw
        exact List.eq_nil_of_length_eq_zero (by omega)
      subst ht
      rw [List.append_nil] at a2
      obtain ⟨D', h1, h2⟩ := Up.sync (D := A) ⟨a2, a3, hu2⟩
      exact ⟨D', h1, h2⟩
  · exact absurd hu a3
end Go.Proofs.Ytplcpjngpkghmaa
