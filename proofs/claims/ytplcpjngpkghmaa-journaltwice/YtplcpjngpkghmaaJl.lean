/-
  For JournalNil: Open of no disk, and Trim of a log of one record at most.
-/
import Derived.Test.YtplcpjngpkghmaaJk
namespace Go.Proofs.Ytplcpjngpkghmaa
open Go.RowKit Go.Maps
variable {P : Nat → Obj → Prop}

set_option maxHeartbeats 400000 in
theorem open_nil (w : World) : Calls Try.prog 27 #[.pointer none] w fun e w' => e = .returned (.tuple #[.pointer none, .int .i64 11]) ∧ w' = w := by
  have H17 : Hid (Calls Try.prog 17 #[.pointer none] w fun e w' => e = .returned (.bool true) ∧ w' = w) := down_nil w
  go_enter Try.func27, Try.ntmps27
  go_wp2_with (go_at_call 17; refine H17.out.mono ?_; rintro e w1 ⟨rfl, rfl⟩)
  all_goals go_ret2
  all_goals exact ⟨rfl, rfl⟩
theorem enc1_len (n : Nat) : (encB n []).length = 16 := by
  unfold encB
  rw [List.flatMap_nil, List.append_nil, Crc.frame_length]
  rfl
theorem rep_dl (bs : List UInt8) (sy : Nat) : replaceD (dl bs sy) 1 [] = (0, dl (encB 1 []) 16) := by
  have e1 : discardD (dl bs sy) = (0, dl bs sy) := by rfl
  have e2 : appendD (dl bs sy) nmS (encB 1 []) = (0, ⟨[⟨nmL, bs, sy⟩, ⟨nmS, encB 1 [], 0⟩], false, none⟩) := by
    have h1 : okN nmS = true := by decide
    have h2 : bytesBefore nmS nmL = false := by decide
    have h4 : ¬ nmL = nmS := by decide
    unfold appendD
    rw [h1]
    have h3 : ¬ 1048576 < (encB 1 []).length := by rw [enc1_len]; omega
    simp [dl, fnd, h2, h4, h3, burn, ins]
  have e3 : syncD ⟨[⟨nmL, bs, sy⟩, ⟨nmS, encB 1 [], 0⟩], false, none⟩ nmS = (0, ⟨[⟨nmL, bs, sy⟩, ⟨nmS, encB 1 [], (encB 1 []).length⟩], false, none⟩) := by rfl
  have e4 : renameD ⟨[⟨nmL, bs, sy⟩, ⟨nmS, encB 1 [], (encB 1 []).length⟩], false, none⟩ nmS nmL = (0, dl (encB 1 []) (encB 1 []).length) := by rfl
  unfold replaceD
  rw [e1]
  simp only [ne_eq, not_true_eq_false, if_false]
  rw [e2]
  simp only [not_true_eq_false, if_false]
  rw [e3]
  simp only [not_true_eq_false, if_false]
  rw [e4, enc1_len]
theorem trim_any {w0 w : World} {pb lb : Nat} {bs : List UInt8} {sy : Nat} {l : List RC} {tg lt : Nat → Tg} (h : LJ P w0 w pb lb (dl bs sy) (some ⟨pb, 0, none⟩) 0 l tg lt) (hl : l.length ≤ 1) (n : Int) :
    Calls Try.prog 25 #[.pointer (some ⟨lb, 0, none⟩), .int .i64 n] w fun e w' => ∃ i D' first' l' tg' lt', e = .returned (.int .i64 i) ∧ LJ P w0 w' pb lb D' (some ⟨pb, 0, none⟩) first' l' tg' lt' ∧ first' + l'.length = l.length ∧ ((0 ≤ n ∧ n ≤ (l.length : Int) ∧ i = 0) ∨ (n < 0 ∧ i = 2 ∧ first' = 0) ∨ (0 ≤ n ∧ (l.length : Int) < n ∧ i = 2 ∧ first' = 0)) := by
  by_cases h0 : n < 0
  · refine (ltr_below h n (by simpa using h0)).mono ?_
    rintro e w' ⟨rfl, rfl⟩
    exact ⟨2, _, 0, l, tg, lt, rfl, h, by omega, .inr (.inl ⟨h0, rfl, rfl⟩)⟩
  by_cases h1 : (l.length : Int) < n
  · refine (ltr_above h n (by omega) (by simpa using h1)).mono ?_
    rintro e w' ⟨rfl, h'⟩
    exact ⟨2, _, 0, l, tg, lt, rfl, h', by omega, .inr (.inr ⟨by omega, h1, rfl, rfl⟩)⟩
  by_cases h2 : n = 0
  · subst h2
    refine (ltr_first h _ (syn_dl bs sy)).mono ?_
    rintro e w' ⟨rfl, h'⟩
    exact ⟨0, _, 0, l, tg, lt, rfl, h', by omega, .inl ⟨by omega, by omega, rfl⟩⟩
  · have h3 : n = ((0 : Nat) : Int) + (1 : Nat) := by omega
    have h4 : l.length = 1 := by omega
    subst h3
    have h5 : (l.drop 1).map RC.b = [] := by rw [List.drop_eq_nil_of_le (by omega)]; rfl
    refine (ltr_ok h 1 (by omega) (by omega) (dl (encB 1 []) 16) (show replaceD (dl bs sy) (0 + 1) ((l.drop 1).map RC.b) = _ by rw [h5]; exact rep_dl bs sy)).mono ?_
    rintro e w' ⟨rfl, tg', h'⟩
    exact ⟨0, _, 0 + 1, _, tg', lt, rfl, h', by simp; omega, .inl ⟨by omega, by omega, rfl⟩⟩
end Go.Proofs.Ytplcpjngpkghmaa
