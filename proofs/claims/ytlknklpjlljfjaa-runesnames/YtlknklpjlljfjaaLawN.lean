/-
  The walk of the law RunesNames: it returns true and writes nothing that was there.
-/
import Derived.Test.YtlknklpjlljfjaaLawQ
import Derived.Test.YtlknklpjlljfjaaLawB
import Derived.Test.YtlknklpjlljfjaaNlaw
namespace Go.Proofs.Ytlknklpjlljfjaa
open Go.RowKit

theorem list_append (a b : ByteArray) : (a ++ b).data.toList = a.data.toList ++ b.data.toList := by simp
theorem size_append (a b : ByteArray) : (a ++ b).size = a.size + b.size := by simp

theorem name_tail (a : ByteArray) (x : UInt8) (hx : x.toNat < 128) (hin : Txt.inN x.toNat = false) : Txt.name (a ++ ⟨#[x]⟩) = false := by
  unfold Txt.name
  rw [list_append]
  refine Txt.nm_tail x hx hin _ _ _ ?_
  rw [size_append, List.length_append, ← Lib.size_eq]
  exact Nat.le_refl _
theorem name_head (b : ByteArray) (x : UInt8) (hx : x.toNat < 128) (hin : Txt.inN x.toNat = false) : Txt.name (⟨#[x]⟩ ++ b) = false := by
  unfold Txt.name
  rw [list_append]
  refine Txt.nm_head x hx hin _ _ _ ?_
  rw [size_append]
  show 0 < 1 + b.size
  omega

theorem len_le (s : ByteArray) : s.data.toList.length ≤ s.size := by rw [← Lib.size_eq]; exact Nat.le_refl _

theorem name_facts (a : ByteArray) (h : Txt.name a = true) : a.size ≤ 64 ∧ a.data.toList ≠ [] ∧ Txt.hasB a.data.toList = false ∧ (Txt.check a).2.2 = 0 ∧ 1 ≤ (Txt.check a).1 ∧ Txt.allIn a.size a.data.toList = true := by
  have h1 : a.size ≤ 64 := by
    have := Txt.nm_size a.size a.data.toList 0 (len_le a) (by omega) h
    rw [← Lib.size_eq] at this
    omega
  have h2 : a.data.toList ≠ [] := by
    intro e
    unfold Txt.name at h
    rw [e, Txt.nm_end _ _ _ rfl] at h
    simp at h
  rw [Txt.name_eq] at h
  unfold Txt.name2 at h
  split at h
  · rename_i hc
    exact ⟨h1, h2, Txt.allIn_hasB a.size _ (len_le a) h, hc.1, hc.2.1, h⟩
  · cases h

theorem words_two (a b : ByteArray) (ha : Txt.name a = true) (hb : Txt.name b = true) : Txt.words (a ++ ⟨#[32]⟩ ++ b) = ([a.data.toList, b.data.toList], 0, 0) := by
  obtain ⟨a1, a2, a3, a4, a5, a6⟩ := name_facts a ha
  obtain ⟨b1, b2, b3, b4, b5, b6⟩ := name_facts b hb
  have el : (a ++ ⟨#[32]⟩ ++ b).data.toList = a.data.toList ++ (32 :: b.data.toList) := by rw [list_append, list_append]; simp
  have es : (a ++ ⟨#[32]⟩ ++ b).size = a.size + 1 + b.size := by rw [size_append, size_append]; rfl
  have qa : Txt.quo a.data.toList = a.data.toList := by unfold Txt.quo; rw [if_pos ⟨a2, a3⟩]
  have qb : Txt.quo b.data.toList = b.data.toList := by unfold Txt.quo; rw [if_pos ⟨b2, b3⟩]
  have la := Lib.size_eq a
  have lb := Lib.size_eq b
  have hchk : (Txt.check (a ++ ⟨#[32]⟩ ++ b)).2.2 = 0 := by
    unfold Txt.check
    rw [el, es]
    have hm : (Txt.chk (a.size + 1 + b.size) (32 :: b.data.toList) 0 0).2.2 = 0 := by
      obtain ⟨g, hg⟩ : ∃ g, a.size + 1 + b.size = g + 1 := ⟨a.size + b.size, by omega⟩
      rw [hg, Txt.chk_on g (32 :: b.data.toList) 0 0 32 1 (by simp) (Txt.seq_ascii (by simp [Txt.at'])) (by omega)]
      simp only [List.drop_succ_cons, List.drop_zero]
      rw [(Txt.chk_shift g b.data.toList _ _ 0 0).1, Txt.chk_fuel g b.size b.data.toList 0 0 (by omega) (by omega)]
      exact b4
    have h := Txt.chk_quo a.data.toList (32 :: b.data.toList) a.size (a.size + 1 + b.size) 0 0 0 0 (by omega) (by rw [qa]; simp; omega) hm
    rw [qa] at h
    exact h.1 a4
  unfold Txt.words
  rw [if_pos hchk, el]
  have h1 := Txt.mach_quo a.data.toList (32 :: b.data.toList) [] 0 (.inr ⟨32, _, rfl, rfl⟩)
  rw [qa] at h1
  rw [h1, Txt.mach_blank _ _ _ _ _ (by decide)]
  have h2 := Txt.mach_quo b.data.toList [] ([] ++ [a.data.toList]) (0 + a.data.toList.length + 1) (.inl rfl)
  rw [qb, List.append_nil] at h2
  rw [h2]
  rfl

theorem name_both (a b : ByteArray) (ha : Txt.name a = true) (hb : Txt.name b = true) : Txt.name (a ++ b) = decide ((Txt.check (a ++ b)).1 ≤ 16) := by
  obtain ⟨a1, a2, a3, a4, a5, a6⟩ := name_facts a ha
  obtain ⟨b1, b2, b3, b4, b5, b6⟩ := name_facts b hb
  have hbo := check_both a b
  have hc : (Txt.check (a ++ b)).2.2 = 0 ∧ (Txt.check (a ++ b)).1 = (Txt.check a).1 + (Txt.check b).1 := by
    rcases hbo with h | h
    · exact h.2.2
    · exact absurd ⟨a4, b4⟩ h.1
  have hal : Txt.allIn (a ++ b).size (a ++ b).data.toList = true := by
    rw [list_append]
    refine Txt.allIn_append a.size _ _ b.size _ (len_le a) ?_ (len_le b) a6 b6
    rw [List.length_append, size_append, ← Lib.size_eq, ← Lib.size_eq]
    exact Nat.le_refl _
  rw [Txt.name_eq]
  unfold Txt.name2
  by_cases h16 : (Txt.check (a ++ b)).1 ≤ 16
  · rw [if_pos ⟨hc.1, by omega, h16⟩, hal]
    simp [h16]
  · rw [if_neg (fun h => h16 h.2.2)]
    simp [h16]

set_option maxHeartbeats 4000000 in
set_option maxRecDepth 100000 in
theorem law_names (a b : ByteArray) (w : World) (ha : a.size ≤ 140737488351232) (hb : b.size ≤ 140737488351232) :
    Calls Try.prog 8 #[.string a, .string b] w fun e w' => e = .returned (.bool true) ∧ Below w.heap.size w w' := by
  have t1 : Hid (Txt.name (a ++ ⟨#[32]⟩) = false) := name_tail a 32 (by decide) (by decide)
  have t2 : Hid (Txt.name (⟨#[32]⟩ ++ b) = false) := name_head b 32 (by decide) (by decide)
  have z1 : Hid ((a ++ ⟨#[32]⟩).size ≤ 9223372036854775000) := by unfold Hid; rw [size_append]; show a.size + 1 ≤ _; omega
  have z2 : Hid ((⟨#[32]⟩ ++ b : ByteArray).size ≤ 9223372036854775000) := by unfold Hid; rw [size_append]; show 1 + b.size ≤ _; omega
  have tr : Hid (∀ {w1 w2 : World}, Below w.heap.size w w1 → Below w1.heap.size w1 w2 → Below w.heap.size w w2) := fun b1 b2 => b1.trans (b2.mono b1.size)
  have C1 : Hid (∀ w, Calls Try.prog 12 #[.string (a ++ ⟨#[32]⟩)] w fun e w' => e = .returned (.bool false) ∧ Below w.heap.size w w') := fun w => name_is _ _ w z1.out t1.out
  have C2 : Hid (∀ w, Calls Try.prog 12 #[.string (⟨#[32]⟩ ++ b)] w fun e w' => e = .returned (.bool false) ∧ Below w.heap.size w w') := fun w => name_is _ _ w z2.out t2.out
  clear t1 t2 z1 z2
  cases hna : Txt.name a with
  | false =>
    have NA : Hid (Txt.name a = false) := hna
    clear hna
    go_enter Try.func8, Try.ntmps8
    go_wp2_with (go_at_call 9; refine (awake_any _).mono ?_)
    rintro e w1 ⟨rfl, b1⟩
    go_wp2_with (go_at_call 12; refine (name_is a false _ (by omega) NA.out).mono ?_)
    rintro e w2 ⟨rfl, b2⟩
    have c2 := tr.out b1 b2
    clear b1 b2
    go_wp2_with (go_at_call 12; refine (C1.out _).mono ?_)
    rintro e w3 ⟨rfl, b3⟩
    have c3 := tr.out c2 b3
    clear b3 c2
    go_wp2_with (go_at_call 12; refine (C2.out _).mono ?_)
    rintro e w4 ⟨rfl, b4⟩
    have c4 := tr.out c3 b4
    clear b4 c3
    go_wp2
    go_ret
    exact ⟨rfl, c4⟩
  | true =>
    have NA : Hid (Txt.name a = true) := hna
    clear hna
    cases hnb : Txt.name b with
    | false =>
      have NB : Hid (Txt.name b = false) := hnb
      clear hnb
      go_enter Try.func8, Try.ntmps8
      go_wp2_with (go_at_call 9; refine (awake_any _).mono ?_)
      rintro e w1 ⟨rfl, b1⟩
      go_wp2_with (go_at_call 12; refine (name_is a true _ (by omega) NA.out).mono ?_)
      rintro e w2 ⟨rfl, b2⟩
      have c2 := tr.out b1 b2
      clear b1 b2
      go_wp2_with (go_at_call 12; refine (name_is b false _ (by omega) NB.out).mono ?_)
      rintro e w3 ⟨rfl, b3⟩
      have c3 := tr.out c2 b3
      clear b3 c2
      go_wp2_with (go_at_call 12; refine (C1.out _).mono ?_)
      rintro e w4 ⟨rfl, b4⟩
      have c4 := tr.out c3 b4
      clear b4 c3
      go_wp2_with (go_at_call 12; refine (C2.out _).mono ?_)
      rintro e w5 ⟨rfl, b5⟩
      have c5 := tr.out c4 b5
      clear b5 c4
      go_wp2
      go_ret
      exact ⟨rfl, c5⟩
    | true =>
      have NB : Hid (Txt.name b = true) := hnb
      clear hnb
      obtain ⟨fa, fa2, fa3, _⟩ := name_facts a NA.out
      obtain ⟨fb, _⟩ := name_facts b NB.out
      have W2 : Hid (Txt.words (a ++ ⟨#[32]⟩ ++ b) = ([a.data.toList, b.data.toList], 0, 0)) := words_two a b NA.out NB.out
      have QA : Hid (quoted a = a) := quoted_bare a ⟨fa2, fa3⟩
      have nb := name_both a b NA.out NB.out
      obtain ⟨c, p, er, hcs⟩ : ∃ c p er, Txt.check (a ++ b) = (c, p, er) := ⟨_, _, _, rfl⟩
      rw [hcs] at nb
      simp only at nb
      have HK : Hid (Txt.check (a ++ b) = (c, p, er)) := hcs
      have HNB : Hid (Txt.name (a ++ b) = decide (c ≤ 16)) := nb
      clear hcs nb fa2 fa3
      have t3 : Hid (Txt.name (a ++ ⟨#[65]⟩) = false) := name_tail a 65 (by decide) (by decide)
      have z3 : Hid ((a ++ ⟨#[65]⟩).size ≤ 9223372036854775000) := by unfold Hid; rw [size_append]; show a.size + 1 ≤ _; omega
      have z4 : Hid ((a ++ b).size ≤ 9223372036854775000) := by unfold Hid; rw [size_append]; omega
      have z5 : Hid ((a ++ ⟨#[32]⟩ ++ b).size ≤ 4398046511104) := by unfold Hid; rw [size_append, size_append]; show a.size + 1 + b.size ≤ _; omega
      have C3 : Hid (∀ w, Calls Try.prog 12 #[.string (a ++ ⟨#[65]⟩)] w fun e w' => e = .returned (.bool false) ∧ Below w.heap.size w w') := fun w => name_is _ _ w z3.out t3.out
      have C4 : Hid (∀ w, Calls Try.prog 10 #[.string (a ++ b)] w fun e w' => e = .returned (.tuple #[.int .i64 c, .int .i64 p, .int .i64 er]) ∧ Below w.heap.size w w') := fun w => check_at _ w z4.out c p er HK.out
      have C5 : Hid (∀ w, Calls Try.prog 14 #[.string (a ++ ⟨#[32]⟩ ++ b)] w fun e w' => ∃ v, e = .returned (.tuple #[v, .int .i64 (0 : Nat), .int .i64 (0 : Nat)]) ∧ w'.ownsRow w.heap.size 9 1 v 2 [strV a.data.toList, strV b.data.toList] ∧ Below w.heap.size w w') := fun w => words_at _ w z5.out _ 0 0 W2.out
      have C6 : Hid (∀ w, Calls Try.prog 12 #[.string (a ++ b)] w fun e w' => e = .returned (.bool (decide (c ≤ 16))) ∧ Below w.heap.size w w') := fun w => name_is _ _ w z4.out HNB.out
      clear t3 z3 z4 z5 W2 HK HNB
      have HQ : Hid (∀ w, Calls Try.prog 17 #[.string a] w fun e w' => e = .returned (.string a) ∧ Below w.heap.size w w') := by
        intro w
        have := quote_any a w (by omega)
        rw [QA.out] at this
        exact this
      have hdec : decide ((c : Int) ≤ 16) = decide (c ≤ 16) := by rw [decide_eq_decide]; omega
      have HD : Hid (decide ((c : Int) ≤ 16) = decide (c ≤ 16)) := hdec
      clear hdec
      go_enter Try.func8, Try.ntmps8
      go_wp2_with (go_at_call 9; refine (awake_any _).mono ?_)
      rintro e w1 ⟨rfl, b1⟩
      go_wp2_with (go_at_call 12; refine (name_is a true _ (by omega) NA.out).mono ?_)
      rintro e w2 ⟨rfl, b2⟩
      have c2 := tr.out b1 b2
      clear b1 b2
      go_wp2_with (go_at_call 12; refine (name_is b true _ (by omega) NB.out).mono ?_)
      rintro e w3 ⟨rfl, b3⟩
      have c3 := tr.out c2 b3
      clear b3 c2
      go_wp2_with (go_at_call 14; refine (C5.out _).mono ?_)
      rintro e w4 ⟨v, rfl, hown, b4⟩
      have c4 := tr.out c3 b4
      clear b4 c3
      obtain ⟨g, cp, rfl⟩ : ∃ g cp, v = .slice (some ⟨g, 0, none⟩) 2 cp := by
        rcases hown.2 with ⟨_, h0⟩ | ⟨g, cap, cur, hv, _⟩
        · simp at h0
        · exact ⟨g, cap, hv⟩
      go_wp2_with (go_at_call 10; refine (C4.out _).mono ?_)
      rintro e w5 ⟨rfl, b5⟩
      have hown5 := own_later hown b5 (Nat.le_refl _)
      have c5 := tr.out c4 b5
      have hc0 : w5.cell? ⟨g, 0, none⟩ = some (.string a) := by
        have := hown5.cells (g := g) rfl 0 (strV a.data.toList) rfl
        rw [show (⟨g, 0, none⟩ : Addr).add 0 = ⟨g, 0, none⟩ from by unfold Addr.add; split <;> simp_all] at this
        exact this
      have hc1 : w5.cell? ⟨g, 1, none⟩ = some (.string b) := by
        have := hown5.cells (g := g) rfl 1 (strV b.data.toList) rfl
        rw [show (⟨g, 0, none⟩ : Addr).add 1 = ⟨g, 1, none⟩ from by unfold Addr.add; split <;> simp_all] at this
        exact this
      clear b5 c4 hown hown5
      go_wp2_with (go_at_call 17; refine (HQ.out _).mono ?_)
      rintro e w6 ⟨rfl, b6⟩
      have c6 := tr.out c5 b6
      clear b6 c5
      go_wp2_with (go_at_call 12; refine (C6.out _).mono ?_)
      rintro e w7 ⟨rfl, b7⟩
      have c7 := tr.out c6 b7
      clear b7 c6
      go_wp2_with (go_at_call 12; refine (C3.out _).mono ?_)
      rintro e w8 ⟨rfl, b8⟩
      have c8 := tr.out c7 b8
      clear b8 c7
      go_wp2
      go_ret
      exact ⟨by simp [HD.out], c8⟩

end Go.Proofs.Ytlknklpjlljfjaa
