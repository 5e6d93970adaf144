/-
  The walk of the law RunesBoth: it returns true and writes nothing that was there.
-/
import Derived.Test.YtlknklpjlljfjaaLawA
namespace Go.Proofs.Ytlknklpjlljfjaa
open Go.RowKit

/-- two texts one behind the other, as Check tells them -/
theorem check_both (a b : ByteArray) : 
    ((Txt.check a).2.2 = 0 ∧ (Txt.check b).2.2 = 0 ∧ (Txt.check (a ++ b)).2.2 = 0 ∧ (Txt.check (a ++ b)).1 = (Txt.check a).1 + (Txt.check b).1) ∨
    (¬ ((Txt.check a).2.2 = 0 ∧ (Txt.check b).2.2 = 0) ∧ ((Txt.check (a ++ b)).2.2 ≠ 0 ∧ (Txt.check (a ++ b)).1 = 0 ∨ (Txt.check a).2.2 ≠ 0 ∧ (Txt.check b).2.2 ≠ 0)) := by
  have hd : (a ++ b).data.toList = a.data.toList ++ b.data.toList := by simp
  have hsz : (a ++ b).size = a.size + b.size := by simp
  have la : a.data.toList.length ≤ a.size := by rw [← Lib.size_eq]; exact Nat.le_refl _
  have lb : b.data.toList.length ≤ b.size := by rw [← Lib.size_eq]; exact Nat.le_refl _
  have lab : (a.data.toList ++ b.data.toList).length ≤ a.size + b.size := by rw [List.length_append]; omega
  unfold Txt.check
  rw [hd, hsz]
  have hfb := Txt.chk_fuel (a.size + b.size) b.size b.data.toList (0 + a.data.toList.length) (Txt.chk a.size a.data.toList 0 0).1 (by omega) lb
  have hsh := Txt.chk_shift b.size b.data.toList (0 + a.data.toList.length) (Txt.chk a.size a.data.toList 0 0).1 0 0
  have hsh2 := Txt.chk_shift (a.size + b.size) (a.data.toList ++ b.data.toList) 0 0 0 0
  by_cases ha : (Txt.chk a.size a.data.toList 0 0).2.2 = 0
  · have h1 := Txt.chk_append a.size a.data.toList b.data.toList 0 0 (a.size + b.size) la lab ha
    rw [hfb] at h1
    by_cases hb : (Txt.chk b.size b.data.toList 0 0).2.2 = 0
    · refine .inl ⟨ha, hb, ?_, ?_⟩
      · rw [h1, hsh.1]; exact hb
      · rw [h1]
        have := hsh.2.1 (by rw [hsh.1]; exact hb)
        omega
    · refine .inr ⟨fun h => hb h.2, .inl ⟨?_, ?_⟩⟩
      · rw [h1, hsh.1]; exact hb
      · rw [h1]
        exact hsh.2.2 (by rw [hsh.1]; exact hb)
  · refine .inr ⟨fun h => ha h.1, ?_⟩
    by_cases hb : (Txt.chk b.size b.data.toList 0 0).2.2 = 0
    · have h2 := Txt.chk_wrong a.size a.data.toList b.data.toList 0 0 (a.size + b.size) la lab ha (Txt.head_of_ok b.size b.data.toList 0 0 lb hb)
      exact .inl ⟨h2, hsh2.2.2 h2⟩
    · exact .inr ⟨ha, hb⟩

theorem chk_small (f : Nat) : ∀ (l : List UInt8) (p c : Nat), (Txt.chk f l p c).1 ≤ c + f := by
  induction f with
  | zero => intro l p c; simp [Txt.chk]
  | succ f ih =>
    intro l p c
    by_cases hl : l.length = 0
    · rw [Txt.chk_end _ _ _ _ hl]; show c ≤ _; omega
    cases hs : Txt.seq l with
    | none => rw [Txt.chk_bad f l p c hl hs]; show 0 ≤ _; omega
    | some x =>
      obtain ⟨r, n⟩ := x
      by_cases hr : r < 32 ∨ r = 127
      · rw [Txt.chk_form f l p c r n hl hs hr]; show 0 ≤ _; omega
      · rw [Txt.chk_on f l p c r n hl hs hr]
        have := ih (l.drop n) (p + n) (c + 1)
        omega

set_option maxHeartbeats 2000000 in
set_option maxRecDepth 100000 in
theorem law_both (a b : ByteArray) (w : World) (ha : a.size ≤ 140737488351232) (hb : b.size ≤ 140737488351232) :
    Calls Try.prog 7 #[.string a, .string b] w fun e w' => e = .returned (.bool true) ∧ Below w.heap.size w w' := by
  have hbo := check_both a b
  have hca := chk_small a.size a.data.toList 0 0
  have hcb := chk_small b.size b.data.toList 0 0
  obtain ⟨c1, p1, e1, h1⟩ : ∃ c p er, Txt.check a = (c, p, er) := ⟨_, _, _, rfl⟩
  obtain ⟨c2, p2, e2, h2⟩ : ∃ c p er, Txt.check b = (c, p, er) := ⟨_, _, _, rfl⟩
  obtain ⟨c3, p3, e3, h3⟩ : ∃ c p er, Txt.check (a ++ b) = (c, p, er) := ⟨_, _, _, rfl⟩
  rw [h1, h2, h3] at hbo
  rw [show Txt.chk a.size a.data.toList 0 0 = (c1, p1, e1) from h1] at hca
  rw [show Txt.chk b.size b.data.toList 0 0 = (c2, p2, e2) from h2] at hcb
  have K1 : Hid (Txt.check a = (c1, p1, e1)) := h1
  have K2 : Hid (Txt.check b = (c2, p2, e2)) := h2
  have K3 : Hid (Txt.check (a ++ b) = (c3, p3, e3)) := h3
  have hsz : (a ++ b).size ≤ 9223372036854775000 := by simp; omega
  have HSZ : Hid ((a ++ b).size ≤ 9223372036854775000) := hsz
  clear h1 h2 h3 hsz
  simp only at hbo hca hcb
  have close : ∀ {w1 w2 w3 w4 : World}, Below w.heap.size w w1 → Below w1.heap.size w1 w2 → Below w2.heap.size w2 w3 → Below w3.heap.size w3 w4 → Below w.heap.size w w4 := fun b1 b2 b3 b4 =>
    ((b1.trans (b2.mono b1.size)).trans (b3.mono (Nat.le_trans b1.size b2.size))).trans (b4.mono (Nat.le_trans b1.size (Nat.le_trans b2.size b3.size)))
  have CL : Hid (∀ {w1 w2 w3 w4 : World}, Below w.heap.size w w1 → Below w1.heap.size w1 w2 → Below w2.heap.size w2 w3 → Below w3.heap.size w3 w4 → Below w.heap.size w w4) := close
  clear close
  rcases hbo with ⟨rfl, rfl, rfl, hk⟩ | ⟨hn, hr⟩
  · have hk' : ((c3 : Int) == (c1 : Int) + (c2 : Int)) = true := by simp; omega
    clear hk
    go_enter Try.func7, Try.ntmps7
    go_wp2_with (go_at_call 9; refine (awake_any _).mono ?_)
    rintro e w1 ⟨rfl, b1⟩
    go_wp2_with (go_at_call 10; refine (check_at a _ (by omega) c1 p1 0 K1.out).mono ?_)
    rintro e w2 ⟨rfl, b2⟩
    go_wp2_with (go_at_call 10; refine (check_at b _ (by omega) c2 p2 0 K2.out).mono ?_)
    rintro e w3 ⟨rfl, b3⟩
    go_wp2_with (go_at_call 10; refine (check_at (a ++ b) _ HSZ.out c3 p3 0 K3.out).mono ?_)
    rintro e w4 ⟨rfl, b4⟩
    go_wp2
    go_ret
    exact ⟨rfl, CL.out b1 b2 b3 b4⟩
  have hz : e3 ≠ 0 → c3 = 0 := by
    intro h
    have := (Txt.chk_shift (a ++ b).size (a ++ b).data.toList 0 0 0 0).2.2
    rw [show Txt.chk (a ++ b).size (a ++ b).data.toList 0 0 = (c3, p3, e3) from K3.out] at this
    exact this h
  by_cases h3 : c3 = 0
  · have k3 : ((c3 : Int) == 0) = true := by simp; omega
    by_cases h1 : e1 = 0
    · have k1 : ((e1 : Int) == 0) = true := by simp; omega
      have k2 : ((e2 : Int) == 0) = false := by simp; omega
      clear hn hr hz h1 h3
      go_enter Try.func7, Try.ntmps7
      go_wp2_with (go_at_call 9; refine (awake_any _).mono ?_)
      rintro e w1 ⟨rfl, b1⟩
      go_wp2_with (go_at_call 10; refine (check_at a _ (by omega) c1 p1 e1 K1.out).mono ?_)
      rintro e w2 ⟨rfl, b2⟩
      go_wp2_with (go_at_call 10; refine (check_at b _ (by omega) c2 p2 e2 K2.out).mono ?_)
      rintro e w3 ⟨rfl, b3⟩
      go_wp2_with (go_at_call 10; refine (check_at (a ++ b) _ HSZ.out c3 p3 e3 K3.out).mono ?_)
      rintro e w4 ⟨rfl, b4⟩
      go_wp2
      go_ret
      exact ⟨by simp, CL.out b1 b2 b3 b4⟩
    · have k1 : ((e1 : Int) == 0) = false := by simp; omega
      clear hn hr hz h1 h3
      go_enter Try.func7, Try.ntmps7
      go_wp2_with (go_at_call 9; refine (awake_any _).mono ?_)
      rintro e w1 ⟨rfl, b1⟩
      go_wp2_with (go_at_call 10; refine (check_at a _ (by omega) c1 p1 e1 K1.out).mono ?_)
      rintro e w2 ⟨rfl, b2⟩
      go_wp2_with (go_at_call 10; refine (check_at b _ (by omega) c2 p2 e2 K2.out).mono ?_)
      rintro e w3 ⟨rfl, b3⟩
      go_wp2_with (go_at_call 10; refine (check_at (a ++ b) _ HSZ.out c3 p3 e3 K3.out).mono ?_)
      rintro e w4 ⟨rfl, b4⟩
      go_wp2
      go_ret
      exact ⟨by simp, CL.out b1 b2 b3 b4⟩
  · have k3 : ((c3 : Int) == 0) = false := by simp; omega
    have k1 : ((e1 : Int) == 0) = false := by simp; omega
    have k1' : ((e1 : Int) != 0) = true := by simp; omega
    have k2 : ((e2 : Int) != 0) = true := by simp; omega
    have k4 : ((e3 : Int) == 0) = true := by simp; omega
    clear hn hr hz h3
    go_enter Try.func7, Try.ntmps7
    go_wp2_with (go_at_call 9; refine (awake_any _).mono ?_)
    rintro e w1 ⟨rfl, b1⟩
    go_wp2_with (go_at_call 10; refine (check_at a _ (by omega) c1 p1 e1 K1.out).mono ?_)
    rintro e w2 ⟨rfl, b2⟩
    go_wp2_with (go_at_call 10; refine (check_at b _ (by omega) c2 p2 e2 K2.out).mono ?_)
    rintro e w3 ⟨rfl, b3⟩
    go_wp2_with (go_at_call 10; refine (check_at (a ++ b) _ HSZ.out c3 p3 e3 K3.out).mono ?_)
    rintro e w4 ⟨rfl, b4⟩
    go_wp2
    go_ret
    exact ⟨by simp, CL.out b1 b2 b3 b4⟩

end Go.Proofs.Ytlknklpjlljfjaa
