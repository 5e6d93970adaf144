/-
  The document's ledger: Take, whole.
-/
import Derived.Test.YtehgcaaeifnjeaaRj
import Derived.Test.YtehgcaaeifnjeaaLf
namespace Go.Proofs.Ytehgcaaeifnjeaa
open Go.RowKit Go.Maps Go.WideMaps

set_option maxHeartbeats 1000000 in
theorem rtake_bad (w : World) (p s : Value) (z : Int) (hz : z ≠ 0) (H40 : Hid (Calls Try.prog 40 #[p, s] w fun e w' => e = .returned (.int .i64 z) ∧ Hid (Below w.heap.size w w'))) :
    Calls Try.prog 24 #[p, s] w fun e w' => e = .returned (.int .i64 z) ∧ Hid (Below w.heap.size w w') := by
  have hb : (z == 0) = false := by simpa using hz
  go_enter Try.func24, Try.ntmps24
  go_wp2_with (go_at_call 40; refine H40.out.mono ?_; first | rintro e w1 rfl b1 | rintro e w1 ⟨rfl, b1⟩)
  go_ret
  exact ⟨rfl, b1⟩
theorem rtake_any {w : World} {T : Nat → Prop} {rb : Nat} {D : List A} (h : Ref w T rb D) (s : Option Addr) (es : List E) (c : Nat) (hn : es.length < 1152921504606846976) (hr : ERow w s es) (hs : ∀ p o, s = some ⟨p, o, none⟩ → ¬ T p) :
    Calls Try.prog 24 #[.pointer (some ⟨rb, 0, none⟩), .slice s es.length c] w fun e w' => e = .returned (.int .i64 (takeD D es).1) ∧ Hid (∃ T', Ref w' T' rb (takeD D es).2 ∧ Step T T' w w') := by
  have h0 := h
  have H40 : Calls Try.prog 40 #[.pointer (some ⟨rb, 0, none⟩), .slice s es.length c] w fun e w' => e = .returned (.int .i64 (checkD D es)) ∧ Hid (Below w.heap.size w w') := rwrong_any h s es c hn hr
  obtain ⟨⟨q, m, cc, h1, hT⟩, hlt⟩ := h
  unfold takeD postD
  by_cases hc : checkD D es = 0
  · rw [if_pos hc]
    rw [hc] at H40
    obtain ⟨hok, hth⟩ := check0 hc
    cases hq : seqU takeF D (u0 D) es with
    | none =>
      have hroom : ¬ Room D (u0 D) es := fun hr => by
        rw [seq_take_ok hok hr] at hq
        cases hq
      refine (rtake_no w rb q m cc D s es es.length c h1 rfl hn hr hok hth hroom H40).mono ?_
      rintro e w' ⟨rfl, b⟩
      exact ⟨rfl, T, h0.keepB b.out, Step.of_below T b.out⟩
    | some u =>
      obtain ⟨hroom, rfl⟩ := seq_take_some hq
      refine (rtake_ok w rb q m cc D s es es.length c h1 rfl hn hr hok hth hroom (fun p o e hp => hs p o e (hT p (.inr hp))) H40).mono ?_
      rintro e w' ⟨rfl, hK⟩
      obtain ⟨hR, hp⟩ := hK.out
      rw [uk_zero, List.take_length] at hR
      exact ⟨rfl, T, ⟨⟨q, m, cc, hR, hT⟩, fun k hk => Nat.lt_of_lt_of_le (hlt k hk) hp.size⟩, hp.mono fun k _ e => hT k (.inr e), fun _ hk => .inl hk⟩
  · rw [if_neg hc]
    refine (rtake_bad w _ _ _ hc H40).mono ?_
    rintro e w' ⟨rfl, b⟩
    exact ⟨rfl, T, h0.keepB b.out, Step.of_below T b.out⟩
end Go.Proofs.Ytehgcaaeifnjeaa
