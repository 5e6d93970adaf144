/-
  The contract of the reference's Same at two lists of the same strings: true.
-/
import Derived.Test.YtlknklpjlljfjaaWalkI
import Derived.Deep.QuietTactic
import Derived.BigQuiet
import Derived.WalkSmall
namespace Go.Proofs.Ytlknklpjlljfjaa
open Go.RowKit

/-- the cells of a list of strings -/
def holdsAt (w : World) (a : Option Addr) (n : Nat) (S : Nat → ByteArray) : Prop :=
  ∀ j, j < n → ∃ b o, a = some ⟨b, o, none⟩ ∧ w.cell? ⟨b, o + j, none⟩ = some (.string (S j))

theorem holdsAt_own {w : World} {B n c : Nat} {a : Option Addr} {ws : List (List UInt8)} (h : w.ownsRow B 9 1 (.slice a n c) n (ws.map strV)) : holdsAt w a n (fun j => ⟨(ws.getD j []).toArray⟩) := by
  intro j hj
  rcases h.2 with ⟨h1, h0⟩ | ⟨g, cap, cur, h1, hb, hg, hnc, hcm, hcs, htk⟩
  · omega
  · simp only [Value.slice.injEq] at h1
    obtain ⟨rfl, _, rfl⟩ := h1
    refine ⟨g, 0, rfl, ?_⟩
    have hl := h.1
    simp at hl
    have := h.cells (g := g) rfl j (strV (ws.getD j [])) (by simp [List.getElem?_eq_getElem (show j < ws.length by omega), List.getD])
    rw [show (⟨g, 0, none⟩ : Addr).add j = ⟨g, 0 + j, none⟩ from by unfold Addr.add; split <;> simp_all] at this
    exact this

set_option maxHeartbeats 2000000 in
set_option maxRecDepth 100000 in
theorem same_true (n c1 c2 : Nat) (S : Nat → ByteArray) (a1 a2 : Option Addr) (w : World) (hn : n ≤ 9223372036854775000) (h1 : holdsAt w a1 n S) (h2 : holdsAt w a2 n S) :
    Calls Try.prog 16 #[.slice a1 n c1, .slice a2 n c2] w fun e w' => e = .returned (.bool true) ∧ ∃ nq, w' = w.drewN nq := by
  have H1 : Hid (holdsAt w a1 n S) := h1
  have H2 : Hid (holdsAt w a2 n S) := h2
  clear h1 h2
  go_enter Try.func16, Try.ntmps16
  go_wp2_with fail
  go_loopw [5] (fun iv wr => ∃ k nq : Nat, iv = .int .i64 k ∧ k ≤ n ∧ wr = w.drewN nq) (fun iv _ => n - (intOf iv).toNat)
  case atStart => exact ⟨0, 0, rfl, by omega, rfl⟩
  case round =>
    obtain ⟨k, nq, rfl, hkn, rfl⟩ := hrel
    by_cases hk : k < n
    · obtain ⟨b, o, rfl, hc1⟩ := H1.out k hk
      obtain ⟨b', o', rfl, hc2⟩ := H2.out k hk
      have hki : (k : Int) < (n : Int) := by omega
      go_wp2_with fail
      go_quiet (fail)
      go_wp2_with fail
      exact ⟨⟨k + 1, _, by go_num, by omega, rfl⟩, by simp [intOf]; omega⟩
    · go_wp2_with fail
      go_ret
      exact ⟨rfl, _, rfl⟩

theorem rwords_at (s : ByteArray) (w : World) (hs : s.size ≤ 4398046511104) (ws : List (List UInt8)) (p er : Nat) (h : Txt.words s = (ws, p, er)) :
    Calls Try.prog 15 #[.string s] w fun e w' => ∃ v, e = .returned (.tuple #[v, .int .i64 p, .int .i64 er]) ∧ w'.ownsRow w.heap.size 9 1 v ws.length (ws.map strV) ∧ Below w.heap.size w w' := by
  have := rwords_any s w hs
  rw [h] at this
  exact this

theorem own_later {w w' : World} {B B' e size n : Nat} {v : Value} {xs : List Value} (h : w.ownsRow B e size v n xs) (hb : Below B' w w') (hB : w.heap.size ≤ B') : w'.ownsRow B e size v n xs :=
  own_of_heap h fun g hg => hb.block g (Nat.lt_of_lt_of_le (h.lt g hg).2 hB)

theorem mach_len (l : List UInt8) : ∀ (st : Nat) (acc : List UInt8) (done : List (List UInt8)) (p : Nat), (Txt.mach l st acc done p).1.length ≤ done.length + l.length + 1 := by
  induction l with
  | nil =>
    intro st acc done p
    simp only [Txt.mach]
    split
    · simp
    · split <;> simp
  | cons b l ih =>
    intro st acc done p
    simp only [Txt.mach]
    split
    · simp
    split
    · have := ih 0 [] (done ++ [acc]) (p + 1)
      simp at this ⊢
      omega
    split
    · have := ih (Txt.stepN st b.toNat) (acc ++ [b]) done (p + 1)
      simp at this ⊢
      omega
    · have := ih (Txt.stepN st b.toNat) acc done (p + 1)
      simp at this ⊢
      omega

theorem words_len (s : ByteArray) : (Txt.words s).1.length ≤ s.size + 1 := by
  unfold Txt.words
  split
  · have := mach_len s.data.toList 0 [] [] 0
    rw [← Lib.size_eq] at this
    simp at this
    exact this
  · simp

set_option maxHeartbeats 2000000 in
set_option maxRecDepth 100000 in
theorem law_words (s : ByteArray) (w : World) (hs : s.size ≤ 4398046511104) :
    Calls Try.prog 4 #[.string s] w fun e w' => e = .returned (.bool true) ∧ Below w.heap.size w w' := by
  obtain ⟨ws, p, er, hws⟩ : ∃ ws p er, Txt.words s = (ws, p, er) := ⟨_, _, _, rfl⟩
  have hlen := words_len s
  rw [hws] at hlen
  simp only at hlen
  have HW : Hid (Txt.words s = (ws, p, er)) := hws
  clear hws
  go_enter Try.func4, Try.ntmps4
  go_wp2_with (go_at_call 9; refine (awake_any _).mono ?_)
  rintro e w1 ⟨rfl, b1⟩
  go_wp2_with (go_at_call 14; refine (words_at s _ hs ws p er HW.out).mono ?_)
  rintro e w2 ⟨v, rfl, hown, b2⟩
  go_wp2_with (go_at_call 15; refine (rwords_at s _ hs ws p er HW.out).mono ?_)
  rintro e w3 ⟨v', rfl, hown', b3⟩
  have hown2 := own_later hown b3 (Nat.le_refl _)
  obtain ⟨a, c, rfl⟩ := slice_of_own hown2
  obtain ⟨a', c', rfl⟩ := slice_of_own hown'
  have hA := holdsAt_own hown2
  have hA' := holdsAt_own hown'
  have HA : Hid (holdsAt w3 a ws.length (fun j => ⟨(ws.getD j []).toArray⟩)) := hA
  have HA' : Hid (holdsAt w3 a' ws.length (fun j => ⟨(ws.getD j []).toArray⟩)) := hA'
  clear hown hown' hown2 hA hA'
  go_wp2_with (go_at_call 16; refine (same_true ws.length c c' _ a a' _ (by omega) HA.out HA'.out).mono ?_)
  rintro e w4 ⟨rfl, nq, rfl⟩
  go_wp2
  go_ret
  exact ⟨by simp, below_drewN ((b1.trans (b2.mono b1.size)).trans (b3.mono (Nat.le_trans b1.size b2.size))) nq⟩

end Go.Proofs.Ytlknklpjlljfjaa
