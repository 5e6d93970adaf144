/-
  The journal's Trim: its range, and a trim of nothing.
-/
import Derived.Test.YtplcpjngpkghmaaJh
namespace Go.Proofs.Ytplcpjngpkghmaa
open Go.RowKit Go.Maps
variable {P : Nat → Obj → Prop}

set_option maxHeartbeats 1000000 in
theorem ltr_below {w0 w : World} {pb lb first : Nat} {D : DK} {l : List RC} {tg lt : Nat → Tg} (h : Hid (LJ P w0 w pb lb D (some ⟨pb, 0, none⟩) first l tg lt)) (n : Int) (hn : n < (first : Int)) :
    Calls Try.prog 25 #[.pointer (some ⟨lb, 0, none⟩), .int .i64 n] w fun e w' => e = .returned (.int .i64 2) ∧ w' = w := by
  obtain ⟨v, hg⟩ := h.out.g
  have H42 : Hid (Calls Try.prog 42 #[.pointer (some ⟨lb, 0, none⟩)] w fun e w' => e = .returned (.bool false) ∧ w' = w) := over_no w lb _ _ _ hg.cell
  have H21 : Hid (Calls Try.prog 21 #[.pointer (some ⟨lb, 0, none⟩)] w fun e w' => e = .returned (.int .i64 first) ∧ w' = w) := first_at w lb _ _ _ hg.cell
  clear hg
  go_enter Try.func25, Try.ntmps25
  go_wp2_with (go_at_call 42; refine H42.out.mono ?_)
  rintro e w1 ⟨rfl, rfl⟩
  go_wp2_with (go_at_call 21; refine H21.out.mono ?_)
  rintro e w2 ⟨rfl, rfl⟩
  go_wp2_with fail
  go_ret
  exact ⟨rfl, rfl⟩
theorem lg_slice {w : World} {lt : Nat → Tg} {lb first : Nat} {pt : Option Addr} {v : Value} {l : List RC} (h : LgAt w lt lb pt first v l) : ∃ q c, v = .slice q l.length c := by
  rcases h.own.2 with ⟨rfl, h0⟩ | ⟨g, cap, cur, rfl, _⟩
  · exact ⟨none, 0, by rw [h0]⟩
  · exact ⟨_, _, rfl⟩
set_option maxHeartbeats 1000000 in
theorem ltr_above {w0 w : World} {pb lb first : Nat} {D : DK} {l : List RC} {tg lt : Nat → Tg} (h : Hid (LJ P w0 w pb lb D (some ⟨pb, 0, none⟩) first l tg lt)) (n : Int) (h0 : (first : Int) ≤ n) (hn : (first : Int) + l.length < n) :
    Calls Try.prog 25 #[.pointer (some ⟨lb, 0, none⟩), .int .i64 n] w fun e w' => e = .returned (.int .i64 2) ∧ LJ P w0 w' pb lb D (some ⟨pb, 0, none⟩) first l tg lt := by
  obtain ⟨v, hg⟩ := h.out.g
  obtain ⟨q, c, rfl⟩ := lg_slice hg
  have H42 : Hid (Calls Try.prog 42 #[.pointer (some ⟨lb, 0, none⟩)] w fun e w' => e = .returned (.bool false) ∧ w' = w) := over_no w lb _ _ _ hg.cell
  have H21 : Hid (Calls Try.prog 21 #[.pointer (some ⟨lb, 0, none⟩)] w fun e w' => e = .returned (.int .i64 first) ∧ w' = w) := first_at w lb _ _ _ hg.cell
  have H22 : Hid (Calls Try.prog 22 #[.pointer (some ⟨lb, 0, none⟩)] w fun e w' => e = .returned (.int .i64 ((first : Int) + l.length)) ∧ Below w.heap.size w w') := next_at w lb _ _ _ _ _ (by omega) (by have := hg.bd; omega) hg.cell
  clear hg
  go_enter Try.func25, Try.ntmps25
  go_wp2_with (go_at_call 42; refine H42.out.mono ?_)
  rintro e w1 ⟨rfl, rfl⟩
  go_wp2_with (go_at_call 21; refine H21.out.mono ?_)
  rintro e w2 ⟨rfl, rfl⟩
  go_wp2_with (go_at_call 22; refine H22.out.mono ?_)
  first | rintro e w3 rfl b3 | rintro e w3 ⟨rfl, b3⟩
  go_wp2_with fail
  go_ret
  exact ⟨rfl, h.out.keep b3⟩
set_option maxHeartbeats 1000000 in
theorem ltr_first {w0 w : World} {pb lb first : Nat} {D : DK} {l : List RC} {tg lt : Nat → Tg} (h : Hid (LJ P w0 w pb lb D (some ⟨pb, 0, none⟩) first l tg lt)) (D' : DK) (hA : Hid (syncD D nmL = (0, D'))) :
    Calls Try.prog 25 #[.pointer (some ⟨lb, 0, none⟩), .int .i64 first] w fun e w' => e = .returned (.int .i64 0) ∧ LJ P w0 w' pb lb D' (some ⟨pb, 0, none⟩) first l tg lt := by
  obtain ⟨v, hg⟩ := h.out.g
  obtain ⟨q, c, rfl⟩ := lg_slice hg
  have H42 : Hid (Calls Try.prog 42 #[.pointer (some ⟨lb, 0, none⟩)] w fun e w' => e = .returned (.bool false) ∧ w' = w) := over_no w lb _ _ _ hg.cell
  have H21 : Hid (Calls Try.prog 21 #[.pointer (some ⟨lb, 0, none⟩)] w fun e w' => e = .returned (.int .i64 first) ∧ w' = w) := first_at w lb _ _ _ hg.cell
  have H22 : Hid (Calls Try.prog 22 #[.pointer (some ⟨lb, 0, none⟩)] w fun e w' => e = .returned (.int .i64 ((first : Int) + l.length)) ∧ Below w.heap.size w w') := next_at w lb _ _ _ _ _ (by omega) (by have := hg.bd; omega) hg.cell
  have HC : Hid (w.heap[lb]? = some (.cells #[.pointer (some ⟨pb, 0, none⟩), .int .i64 first, .slice q l.length c] 77 (0, 0))) := hg.cell
  clear hg
  have g2 : (first : Int) ≤ (first : Int) + l.length := by omega
  go_enter Try.func25, Try.ntmps25
  go_wp2_with (go_at_call 42; refine H42.out.mono ?_)
  rintro e w1 ⟨rfl, rfl⟩
  go_wp2_with (first | (go_at_call 21; refine H21.out.mono ?_; rintro e w2 ⟨rfl, rfl⟩) | (go_at_call 22; refine H22.out.mono ?_))
  first | rintro e w3 rfl b3 | rintro e w3 ⟨rfl, b3⟩
  obtain ⟨e0, e1, e2⟩ := k3 (at_below b3 (Nat.le_refl _) HC.out)
  have H26 : Hid (Calls Try.prog 26 #[.pointer (some ⟨lb, 0, none⟩)] w3 fun e w' => e = .returned (.int .i64 0) ∧ LJ P w0 w' pb lb D' (some ⟨pb, 0, none⟩) first l tg lt) := lsy_ok (h.out.keep b3) D' hA
  clear b3
  go_wp2_with (go_at_call 26; refine H26.out.mono ?_)
  first | rintro e w4 rfl h4 | rintro e w4 ⟨rfl, h4⟩
  go_wp2_with fail
  go_ret
  exact ⟨rfl, h4⟩
end Go.Proofs.Ytplcpjngpkghmaa
