/-
  The walk of the law RunesQuotes: it returns true and writes nothing that was there.
-/
import Derived.Test.YtlknklpjlljfjaaWalkO
import Derived.Test.YtlknklpjlljfjaaQlaw
namespace Go.Proofs.Ytlknklpjlljfjaa
open Go.RowKit

theorem quoted_list (s : ByteArray) : (quoted s).data.toList = Txt.quo s.data.toList := rfl

theorem quoted_size (s : ByteArray) : (quoted s).size ≤ 2 * s.size + 2 := by
  rw [Lib.size_eq, quoted_list, Lib.size_eq]
  exact Txt.quo_length _

theorem check_quoted (s : ByteArray) : (Txt.check s).2.2 = 0 ↔ (Txt.check (quoted s)).2.2 = 0 := by
  unfold Txt.check
  have h := Txt.chk_quo s.data.toList [] s.size (quoted s).size 0 0 0 0 (by rw [← Lib.size_eq]; exact Nat.le_refl _) (by rw [List.append_nil, ← quoted_list, ← Lib.size_eq]; exact Nat.le_refl _) (by rw [Txt.chk_end _ _ _ _ rfl])
  rw [List.append_nil] at h
  exact h

theorem words_quoted (s : ByteArray) (h : (Txt.check s).2.2 = 0) : Txt.words (quoted s) = ([s.data.toList], 0, 0) := by
  unfold Txt.words
  rw [if_pos ((check_quoted s).1 h), quoted_list]
  have := Txt.mach_quo s.data.toList [] [] 0 (.inl rfl)
  rw [List.append_nil] at this
  rw [this]
  rfl

theorem words_quoted_bad (s : ByteArray) (h : (Txt.check s).2.2 ≠ 0) : (Txt.words (quoted s)).2.2 ≠ 0 := by
  have h2 : (Txt.check (quoted s)).2.2 ≠ 0 := fun e => h ((check_quoted s).2 e)
  unfold Txt.words
  rw [if_neg h2]
  exact h2

set_option maxHeartbeats 2000000 in
set_option maxRecDepth 100000 in
theorem law_quotes (s : ByteArray) (w : World) (hs : s.size ≤ 1048576) :
    Calls Try.prog 5 #[.string s] w fun e w' => e = .returned (.bool true) ∧ Below w.heap.size w w' := by
  have hqs := quoted_size s
  obtain ⟨c, p, er, hcs⟩ : ∃ c p er, Txt.check s = (c, p, er) := ⟨_, _, _, rfl⟩
  obtain ⟨ws, p2, er2, hws⟩ : ∃ ws p er, Txt.words (quoted s) = (ws, p, er) := ⟨_, _, _, rfl⟩
  have hgood := words_quoted s
  have hbad := words_quoted_bad s
  rw [hcs, hws] at hgood hbad
  simp only at hgood hbad
  have HK : Hid (Txt.check s = (c, p, er)) := hcs
  have HW : Hid (Txt.words (quoted s) = (ws, p2, er2)) := hws
  clear hcs hws
  have HQ : Hid (∀ w, Calls Try.prog 17 #[.string s] w fun e w' => e = .returned (.string (quoted s)) ∧ Below w.heap.size w w') := fun w => quote_any s w (by omega)
  have HRQ : Hid (∀ w, Calls Try.prog 18 #[.string s] w fun e w' => e = .returned (.string (quoted s)) ∧ Below w.heap.size w w') := fun w => rquote_any s w (by omega)
  have HWC : Hid (∀ w, Calls Try.prog 14 #[.string (quoted s)] w fun e w' => ∃ v, e = .returned (.tuple #[v, .int .i64 p2, .int .i64 er2]) ∧ w'.ownsRow w.heap.size 9 1 v ws.length (ws.map strV) ∧ Below w.heap.size w w') := fun w => words_at (quoted s) w (by omega) ws p2 er2 HW.out
  generalize quoted s = q at HQ HRQ HWC
  have close : ∀ {w1 w2 w3 w4 w5 : World}, Below w.heap.size w w1 → Below w1.heap.size w1 w2 → Below w2.heap.size w2 w3 → Below w3.heap.size w3 w4 → Below w4.heap.size w4 w5 → Below w.heap.size w w5 := fun b1 b2 b3 b4 b5 =>
    (((b1.trans (b2.mono b1.size)).trans (b3.mono (Nat.le_trans b1.size b2.size))).trans (b4.mono (Nat.le_trans b1.size (Nat.le_trans b2.size b3.size)))).trans (b5.mono (Nat.le_trans b1.size (Nat.le_trans b2.size (Nat.le_trans b3.size b4.size))))
  have CL : Hid (∀ {w1 w2 w3 w4 w5 : World}, Below w.heap.size w w1 → Below w1.heap.size w1 w2 → Below w2.heap.size w2 w3 → Below w3.heap.size w3 w4 → Below w4.heap.size w4 w5 → Below w.heap.size w w5) := close
  clear close hqs
  by_cases her : er = 0
  · have hg := hgood her
    simp only [Prod.mk.injEq] at hg
    obtain ⟨rfl, rfl, rfl⟩ := hg
    subst her
    clear hgood hbad
    go_enter Try.func5, Try.ntmps5
    go_wp2_with (go_at_call 9; refine (awake_any _).mono ?_)
    rintro e w1 ⟨rfl, b1⟩
    go_wp2_with (go_at_call 17; refine (HQ.out _).mono ?_)
    rintro e w2 ⟨rfl, b2⟩
    go_wp2_with (go_at_call 10; refine (check_at s _ (by omega) c p 0 HK.out).mono ?_)
    rintro e w3 ⟨rfl, b3⟩
    go_wp2_with (go_at_call 14; refine (HWC.out _).mono ?_)
    rintro e w4 ⟨v, rfl, hown, b4⟩
    obtain ⟨g, cp, rfl⟩ : ∃ g cp, v = .slice (some ⟨g, 0, none⟩) 1 cp := by
      rcases hown.2 with ⟨_, h0⟩ | ⟨g, cap, cur, hv, _⟩
      · simp at h0
      · exact ⟨g, cap, hv⟩
    go_wp2_with (go_at_call 18; refine (HRQ.out _).mono ?_)
    rintro e w5 ⟨rfl, b5⟩
    have hown5 := own_later hown b5 (Nat.le_refl _)
    have hcell : w5.cell? ⟨g, 0, none⟩ = some (.string s) := by
      have := hown5.cells (g := g) rfl 0 (strV s.data.toList) rfl
      rw [show (⟨g, 0, none⟩ : Addr).add 0 = ⟨g, 0, none⟩ from by unfold Addr.add; split <;> simp_all] at this
      exact this
    clear hown hown5
    go_wp2
    go_ret
    exact ⟨by simp, CL.out b1 b2 b3 b4 b5⟩
  · have h2 := hbad her
    have k1 : ((er : Int) != 0) = true := by simp; omega
    have k2 : ((er2 : Int) != 0) = true := by simp; omega
    clear hgood hbad her h2
    go_enter Try.func5, Try.ntmps5
    go_wp2_with (go_at_call 9; refine (awake_any _).mono ?_)
    rintro e w1 ⟨rfl, b1⟩
    go_wp2_with (go_at_call 17; refine (HQ.out _).mono ?_)
    rintro e w2 ⟨rfl, b2⟩
    go_wp2_with (go_at_call 10; refine (check_at s _ (by omega) c p er HK.out).mono ?_)
    rintro e w3 ⟨rfl, b3⟩
    go_wp2_with (go_at_call 14; refine (HWC.out _).mono ?_)
    rintro e w4 ⟨v, rfl, hown, b4⟩
    go_wp2_with (go_at_call 18; refine (HRQ.out _).mono ?_)
    rintro e w5 ⟨rfl, b5⟩
    go_wp2
    go_ret
    exact ⟨by simp, CL.out b1 b2 b3 b4 b5⟩

end Go.Proofs.Ytlknklpjlljfjaa
