/-
  The law's came.
-/
import Derived.Test.YtplcpjngpkghmaaKg
namespace Go.Proofs.Ytplcpjngpkghmaa
open Go.RowKit Go.Maps

set_option maxHeartbeats 2000000 in
theorem came_law {w0 w : World} {pb lb rb first : Nat} {D : DK} {pt : Option Addr} {l : List RC} {tg lt : Nat → Tg} {R : RL} {v : Value} (h : Hid (Bo w0 w pb lb rb D pt first l tg lt R v)) (hf : R.first = first) (h1 : R.syn ≤ first + l.length) (h2 : first + l.length ≤ R.next) (he : Hid (∀ (k : Nat) (r : RC), l[k]? = some r → ∃ r', R.all[first + k]? = some r' ∧ r'.b = r.b)) :
    Calls Try.prog 16 #[.pointer (some ⟨lb, 0, none⟩), .pointer (some ⟨rb, 0, none⟩)] w fun e w' => e = .returned (.bool true) ∧ Bo w0 w' pb lb rb D pt first l tg lt (R.came (first + l.length)) v := by
  have F : Hid (∀ V : World, Bo w0 V pb lb rb D pt first l tg lt R v → Calls Try.prog 21 #[.pointer (some ⟨lb, 0, none⟩)] V fun e w' => e = .returned (.int .i64 first) ∧ w' = V) := fun V hV => by
    obtain ⟨u, hg⟩ := hV.j.g
    exact first_at V _ _ _ _ hg.cell
  have N : Hid (∀ V : World, Bo w0 V pb lb rb D pt first l tg lt R v → Calls Try.prog 22 #[.pointer (some ⟨lb, 0, none⟩)] V fun e w' => e = .returned (.int .i64 ((first : Int) + l.length)) ∧ Bo w0 w' pb lb rb D pt first l tg lt R v) := fun V hV => by
    obtain ⟨u, hg⟩ := hV.j.g
    obtain ⟨q, c, rfl⟩ := lg_slice hg
    refine (next_at V lb _ _ _ _ _ (by omega) (by have := hg.bd; omega) hg.cell).mono ?_
    rintro e w' ⟨rfl, b⟩
    exact ⟨rfl, hV.keep b⟩
  have G : Hid (∀ V : World, Bo w0 V pb lb rb D pt first l tg lt R v → Calls Try.prog 36 #[.pointer (some ⟨rb, 0, none⟩), .int .i64 first, .int .i64 ((first : Int) + l.length)] V fun e w' => e = .returned (.bool true) ∧ w' = V) := fun V hV => by
    have := range_ok (w := V) (B := w0.heap.size) (rb := rb) (R := R) ⟨v, hV.r⟩ (first + l.length) h1 h2 (by omega)
    rw [hf, show ((first + l.length : Nat) : Int) = (first : Int) + l.length by omega] at this
    exact this
  have C : Hid (∀ V : World, Bo w0 V pb lb rb D pt first l tg lt R v → Calls Try.prog 37 #[.pointer (some ⟨rb, 0, none⟩), .int .i64 first, .int .i64 ((first : Int) + l.length)] V fun e w' => e = .returned (.tuple #[]) ∧ Bo w0 w' pb lb rb D pt first l tg lt (R.came (first + l.length)) v) := fun V hV => by
    have := came_any hV.r (first + l.length) h2 (by omega)
    rw [hf, show ((first + l.length : Nat) : Int) = (first : Int) + l.length by omega] at this
    refine this.mono ?_
    rintro e w' ⟨rfl, r, k⟩
    exact ⟨rfl, hV.ref r k fun g hg => .inl hg⟩
  have S : Hid (∀ V : World, Bo w0 V pb lb rb D pt first l tg lt (R.came (first + l.length)) v → Calls Try.prog 19 #[.pointer (some ⟨lb, 0, none⟩), .pointer (some ⟨rb, 0, none⟩)] V fun e w' => e = .returned (.bool true) ∧ Bo w0 w' pb lb rb D pt first l tg lt (R.came (first + l.length)) v) := fun V hV => by
    refine (same_at hV ⟨hf, rfl, he.out⟩).mono ?_
    rintro e w' ⟨rfl, b⟩
    exact ⟨rfl, hV.keep b⟩
  go_enter Try.func16, Try.ntmps16
  go_wp2_with (go_at_call 21; refine (F.out _ h.out).mono ?_)
  first | rintro e w1 rfl rfl | rintro e w1 ⟨rfl, rfl⟩
  go_wp2_with (go_at_call 22; refine (N.out _ h.out).mono ?_)
  first | rintro e w2 rfl j2 | rintro e w2 ⟨rfl, j2⟩
  have J2 : Hid (Bo w0 w2 pb lb rb D pt first l tg lt R v) := j2
  clear j2
  go_wp2_with (go_at_call 36; refine (G.out _ J2.out).mono ?_)
  first | rintro e w3 rfl rfl | rintro e w3 ⟨rfl, rfl⟩
  go_wp2_with (go_at_call 21; refine (F.out _ J2.out).mono ?_)
  first | rintro e w4 rfl rfl | rintro e w4 ⟨rfl, rfl⟩
  go_wp2_with (go_at_call 22; refine (N.out _ J2.out).mono ?_)
  first | rintro e w5 rfl j5 | rintro e w5 ⟨rfl, j5⟩
  have J5 : Hid (Bo w0 w5 pb lb rb D pt first l tg lt R v) := j5
  clear j5
  go_wp2_with (go_at_call 37; refine (C.out _ J5.out).mono ?_)
  first | rintro e w6 rfl j6 | rintro e w6 ⟨rfl, j6⟩
  have J6 : Hid (Bo w0 w6 pb lb rb D pt first l tg lt (R.came (first + l.length)) v) := j6
  clear j6
  go_wp2_with (go_at_call 19; refine (S.out _ J6.out).mono ?_)
  first | rintro e w7 rfl j7 | rintro e w7 ⟨rfl, j7⟩
  go_wp2_with fail
  go_ret
  exact ⟨rfl, j7⟩
end Go.Proofs.Ytplcpjngpkghmaa
