/-
  The program's reader: kind.
-/
import Derived.Test.YtnkkiepoljbhlaaDc
namespace Go.Proofs.Ytnkkiepoljbhlaa
open Go.RowKit

/-- a kind's byte -/
def pKnd : Option (List UInt8) → Nat × Option (List UInt8)
  | none => (0, none)
  | some [] => (0, none)
  | some (b :: r) => (b.toNat, some r)
set_option maxHeartbeats 1000000 in
theorem kind_any (w : World) (rb : Nat) (st : Option (List UInt8)) (h : Rd w rb st) : Calls Try.prog 54 #[.pointer (some ⟨rb, 0, none⟩)] w fun e w' => e = .returned (.int .i64 ((pKnd st).1 : Nat)) ∧ Hid (Rd w' rb (pKnd st).2 ∧ RdK rb w w') := by
  have H72 : Hid (∀ s, Rd w rb s → Calls Try.prog 72 #[.pointer (some ⟨rb, 0, none⟩)] w fun e w' => e = .returned (.tuple #[]) ∧ Hid (Rd w' rb none ∧ RdK rb w w')) := fun s h => fail_any w rb s h
  have hl := h.lt
  have HR : Hid (Rd w rb st) := h
  cases st with
  | none =>
    obtain ⟨c0, c1, f0, f1⟩ := rd_cells h
    clear h
    go_enter Try.func54, Try.ntmps54
    go_wp2_with (go_at_call 72; refine (H72.out _ HR.out).mono ?_; rintro e w1 ⟨rfl, h1⟩)
    go_ret
    exact ⟨rfl, h1.out⟩
  | some l =>
    obtain ⟨p, c, hb, hB⟩ := h
    have HB : Hid (w.heap[rb]? = some (.cells #[.slice p l.length c, .bool false] 89 (0, 0)) ∧ Byt w rb p c l) := ⟨hb, hB⟩
    obtain ⟨c0, c1, f0, f1⟩ := rd_cells hb
    cases l with
    | nil =>
      have c0' : w.cell? ⟨rb, 0, none⟩ = some (.slice p 0 c) := c0
      clear hb hB c0
      go_enter Try.func54, Try.ntmps54
      go_wp2_with (go_at_call 72; refine (H72.out _ HR.out).mono ?_; rintro e w1 ⟨rfl, h1⟩)
      go_ret
      exact ⟨rfl, h1.out⟩
    | cons b r =>
      obtain ⟨n, hn⟩ : ∃ n, (b :: r).length = n := ⟨_, rfl⟩
      have HN : Hid ((b :: r).length = n ∧ r.length = n - 1) := ⟨hn, by rw [← hn]; rfl⟩
      have hn0 : 0 < n := by rw [← hn]; exact Nat.succ_pos _
      have hn60 : n < 1152921504606846976 := by have := hB.cm; rw [hn] at this; omega
      have hc1 : 1 ≤ c := by have := hB.cm; rw [hn] at this; omega
      rw [hn] at c0
      obtain ⟨g, o, rfl, hrow⟩ : ∃ g o, p = some ⟨g, o, none⟩ ∧ Row w g o (b :: r) := by
        rcases hB.ly with e | h
        · cases e
        · exact h
      have d0 : w.cell? ⟨g, o, none⟩ = some (.int .u8 b.toNat) := hrow 0 b rfl
      have hu := u8_bd b
      have hin0 : (0 : Int) < (n : Int) := by omega
      have hin1 : (1 : Int) ≤ (n : Int) := by omega
      have hin2 : (1 : Int) ≤ (c : Int) := by omega
      have HP : Hid (∀ p', (p' = if c = 1 then some ⟨g, o, none⟩ else some ⟨g, o + 1, none⟩) → Rd (w.setCell ⟨rb, 0, none⟩ (.slice p' (n - 1) (c - 1))) rb (some r) ∧ RdK rb w (w.setCell ⟨rb, 0, none⟩ (.slice p' (n - 1) (c - 1)))) := fun p' hp => by
        refine ⟨⟨p', c - 1, ?_, (byt_cut (k := 1) HB.out.2 (by have := HN.out; omega) hp).keep ((RdK.refl rb w).set _) hl⟩, (RdK.refl rb w).set _⟩
        rw [HN.out.2]
        exact rd_set0 HB.out.1
      clear hb hB hn hrow
      by_cases hci : c = 1
      · have HX : Hid (Rd (w.setCell ⟨rb, 0, none⟩ (.slice (some ⟨g, o, none⟩) (n - 1) 0)) rb (some r) ∧ RdK rb w (w.setCell ⟨rb, 0, none⟩ (.slice (some ⟨g, o, none⟩) (n - 1) 0))) := by
          have := HP.out (some ⟨g, o, none⟩) (by rw [if_pos hci])
          rw [show c - 1 = 0 by omega] at this
          exact this
        clear HP
        subst hci
        clear hin2 hc1
        go_enter Try.func54, Try.ntmps54
        go_wp2_with fail
        go_ret
        exact ⟨rfl, HX.out⟩
      · have HX : Hid (Rd (w.setCell ⟨rb, 0, none⟩ (.slice (some ⟨g, o + 1, none⟩) (n - 1) (c - 1))) rb (some r) ∧ RdK rb w (w.setCell ⟨rb, 0, none⟩ (.slice (some ⟨g, o + 1, none⟩) (n - 1) (c - 1)))) := HP.out _ (by rw [if_neg hci])
        clear HP
        go_enter Try.func54, Try.ntmps54
        go_wp2_with fail
        go_ret
        exact ⟨rfl, HX.out⟩
end Go.Proofs.Ytnkkiepoljbhlaa
