/-
  awake.
-/
import Derived.Test.YtkfpbpkadkhhnaaLa
namespace Go.Proofs.Ytkfpbpkadkhhnaa
open Go.RowKit Go.Maps

def aw4 : V := ⟨4, 0, 0, 0⟩
def aw3 : V := ⟨3, 0, 0, 0⟩
theorem aw_c : tkC (fun _ => aw4) 0 2 5 aw3 = 0 := by
  unfold tkC
  rw [if_neg (by decide), if_neg (by decide), if_neg (by decide), if_neg]
  intro q
  exact q fun u _ _ => by show aw3.le aw4; decide
set_option maxHeartbeats 1000000 in
theorem awake_any (w0 w : World) (b : Below w0.heap.size w0 w) : Calls Try.prog 8 #[] w fun e w' => e = .returned (.bool true) ∧ Below w0.heap.size w0 w' := by
  have HN : Hid (Calls Try.prog 9 #[.agg #[.int .i64 4, .int .i64 0, .int .i64 0, .int .i64 0]] w fun e w' => ∃ pb, e = .returned (.tuple #[.pointer (some ⟨pb, 0, none⟩), .int .i64 0]) ∧ Hid (LL w0 w' pb NX aw4 (fun _ => aw4) 0)) := l_new w0 w b aw4 (by decide) NX (fun j o q => by cases q)
  have HT : Hid (∀ pb W, LL w0 W pb NX aw4 (fun _ => aw4) 0 → Calls Try.prog 15 #[.pointer (some ⟨pb, 0, none⟩), .int .i64 2, .int .i64 5, .agg #[.int .i64 3, .int .i64 0, .int .i64 0, .int .i64 0]] W fun e w' => e = .returned (.int .i64 0) ∧ Hid (LL w0 w' pb NX aw4 (tkF (fun _ => aw4) 2 5 aw3) 1)) := fun pb W h => by
    have := l_take h 2 5 aw3
    unfold stF stN at this
    rwa [if_pos aw_c, if_pos aw_c, aw_c] at this
  have HF : Hid (∀ pb W, LL w0 W pb NX aw4 (tkF (fun _ => aw4) 2 5 aw3) 1 → (Calls Try.prog 17 #[.pointer (some ⟨pb, 0, none⟩), .int .i64 1] W fun e w' => e = .returned (.agg #[.int .i64 4, .int .i64 0, .int .i64 0, .int .i64 0]) ∧ Hid (LL w0 w' pb NX aw4 (tkF (fun _ => aw4) 2 5 aw3) 1)) ∧ (Calls Try.prog 17 #[.pointer (some ⟨pb, 0, none⟩), .int .i64 2] W fun e w' => e = .returned (.agg #[.int .i64 1, .int .i64 0, .int .i64 0, .int .i64 0]) ∧ Hid (LL w0 w' pb NX aw4 (tkF (fun _ => aw4) 2 5 aw3) 1)) ∧ (Calls Try.prog 17 #[.pointer (some ⟨pb, 0, none⟩), .int .i64 5] W fun e w' => e = .returned (.agg #[.int .i64 4, .int .i64 0, .int .i64 0, .int .i64 0]) ∧ Hid (LL w0 w' pb NX aw4 (tkF (fun _ => aw4) 2 5 aw3) 1))) := fun pb W h =>
    ⟨(l_free h 1).mono fun e w' q => ⟨q.1, h.below q.2⟩, (l_free h 2).mono fun e w' q => ⟨q.1, h.below q.2⟩, (l_free h 5).mono fun e w' q => ⟨q.1, h.below q.2⟩⟩
  have q1 : ∀ w, (Op.equalIn 10000 23 (.agg #[.int .i64 4, .int .i64 0, .int .i64 0, .int .i64 0]) (.agg #[.int .i64 4, .int .i64 0, .int .i64 0, .int .i64 0])).run Try.prog w = .ok true w := fun w => eq4 4 0 0 0 4 0 0 0 w
  have q2 : ∀ w, (Op.equalIn 10000 23 (.agg #[.int .i64 1, .int .i64 0, .int .i64 0, .int .i64 0]) (.agg #[.int .i64 1, .int .i64 0, .int .i64 0, .int .i64 0])).run Try.prog w = .ok true w := fun w => eq4 1 0 0 0 1 0 0 0 w
  clear b
  go_enter Try.func8, Try.ntmps8
  go_wp2_with (first | (go_at_call 9; refine HN.out.mono ?_; rintro e w1 ⟨pb, rfl, h1⟩) | (go_at_call 15; refine (HT.out pb _ h1.out).mono ?_; rintro e w2 ⟨rfl, h2⟩))
  go_wp2_with (go_at_call 17; refine (HF.out pb _ h2.out).1.mono ?_)
  first | rintro e w3 rfl h3 | rintro e w3 ⟨rfl, h3⟩
  go_wp2_with (go_at_call 17; refine (HF.out pb _ h3.out).2.1.mono ?_)
  first | rintro e w4 rfl h4 | rintro e w4 ⟨rfl, h4⟩
  go_wp2_with (go_at_call 17; refine (HF.out pb _ h4.out).2.2.mono ?_)
  first | rintro e w5 rfl h5 | rintro e w5 ⟨rfl, h5⟩
  go_wp2_with fail
  go_ret
  exact ⟨rfl, h5.out.bel⟩
end Go.Proofs.Ytkfpbpkadkhhnaa
