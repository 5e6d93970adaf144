/-
  before: which of two entries comes out first from below.
-/
import Derived.Test.YthlbeofonbbbdaaNa
namespace Go.Proofs.Ythlbeofonbbbdaa
open Go.RowKit Go.Maps

/-- an entry's key and handle, as they lie -/
structure En (w : World) (x : Nat) (k : K) (h : Nat) : Prop where
  h : w.cell? ⟨x, 0, none⟩ = some (.int .i64 h)
  a : w.cell? ⟨x, 1, none⟩ = some (.int .i64 k.a)
  b : w.cell? ⟨x, 2, none⟩ = some (.int .i64 k.b)
  c : w.cell? ⟨x, 3, none⟩ = some (.int .i64 k.c)
theorem En.drew {w : World} {x h m : Nat} {k : K} (e : En w x k h) : En (w.drewN m) x k h := ⟨e.h, e.a, e.b, e.c⟩
theorem drew2 {w : World} (m n : Nat) : ∃ k, (w.drewN m).drewN n = w.drewN k := ⟨m + n, by simp [World.drewN, Nat.add_assoc]⟩
def Pre (k k' : K) (i : Int) : Prop := (1 ≤ i → k.a = k'.a) ∧ (2 ≤ i → k.b = k'.b) ∧ (3 ≤ i → k.c = k'.c)
theorem cm_ne {x y : Int} (h : x ≠ y) : cmI x y ≠ 0 ∧ decide (cmI x y < 0) = decide (x < y) := by
  unfold cmI
  split
  · rename_i q; exact ⟨by omega, by simp [q]⟩
  · rename_i q; rw [if_pos (by omega)]; exact ⟨by omega, by simp [q]⟩
theorem cm_eq (x : Int) : cmI x x = 0 := by unfold cmI; rw [if_neg (by omega), if_neg (by omega)]
set_option maxHeartbeats 1000000 in
theorem before_any (w : World) (x y h h' : Nat) (k k' : K) (E : Hid (En w x k h)) (E' : Hid (En w y k' h')) (o : k.ok) (o' : k'.ok) (hh : h < 1048576) (hh' : h' < 1048576) :
    Calls Try.prog 103 #[ptr x, ptr y] w fun e w' => e = .returned (.bool (ltB k h k' h')) ∧ ∃ m, w' = w.drewN m := by
  have La : Hid (k.a ≠ k'.a → ltB k h k' h' = decide (k.a < k'.a)) := lt_a o o' hh hh'
  have Lb : Hid (k.a = k'.a → k.b ≠ k'.b → ltB k h k' h' = decide (k.b < k'.b)) := lt_b o o' hh hh'
  have Lc : Hid (k.a = k'.a → k.b = k'.b → k.c ≠ k'.c → ltB k h k' h' = decide (k.c < k'.c)) := lt_c hh hh'
  have Lh : Hid (k.a = k'.a → k.b = k'.b → k.c = k'.c → ltB k h k' h' = decide ((h : Int) < h')) := lt_h
  have H46 : Hid (∀ x y w, Calls Try.prog 83 #[.int .i64 x, .int .i64 y] w fun e w' => e = .returned (.int .i64 (cmI x y)) ∧ w' = w) := cmp_any
  clear o o' hh hh'
  generalize ltB k h k' h' = B at *
  unfold ptr
  go_enter Try.func103, Try.ntmps103
  go_wp2_with fail
  go_loopw [7] (fun t wr => ∃ i : Int, 0 ≤ i ∧ i ≤ 3 ∧ t = .int .i64 i ∧ Hid (Pre k k' i) ∧ ∃ m, wr = w.drewN m) (fun t _ => (3 - intOf t).toNat)
  case atStart => exact ⟨0, by omega, by omega, rfl, ⟨fun q => by omega, fun q => by omega, fun q => by omega⟩, 0, rfl⟩
  case round =>
    obtain ⟨i, hi0, hi, rfl, HP, m, rfl⟩ := hrel
    obtain ⟨h0, a0, b0, c0⟩ := E.out.drew (m := m)
    obtain ⟨h1, a1, b1, c1⟩ := E'.out.drew (m := m)
    have HW : Hid (∀ n, ∃ k, (w.drewN m).drewN n = w.drewN k) := drew2 m
    generalize w.drewN m = W at *
    clear E E'
    rcases (by omega : i = 0 ∨ i = 1 ∨ i = 2 ∨ i = 3) with rfl | rfl | rfl | rfl
    · by_cases hc : k.a = k'.a
      · have HA : Hid (k.a = k'.a) := hc
        have e0 : cmI k.a k'.a = 0 := by rw [hc]; exact cm_eq _
        clear hc
        go_upto_region 4 with fail
        go_quiet ((go_at_call 83; exact Calls.quiet_of_same (H46.out _ _ _)))
        go_wp2_with fail
        exact ⟨⟨1, by omega, by omega, rfl, ⟨fun _ => HA.out, fun q => by omega, fun q => by omega⟩, HW.out _⟩, by simp [intOf]⟩
      · obtain ⟨e0, e1⟩ := cm_ne hc
        have HB : Hid (B = decide (k.a < k'.a)) := La.out hc
        have HE : Hid (decide (cmI k.a k'.a < 0) = decide (k.a < k'.a)) := e1
        clear hc e1
        go_upto_region 4 with fail
        go_quiet ((go_at_call 83; exact Calls.quiet_of_same (H46.out _ _ _)))
        go_wp2_with fail
        go_ret
        exact ⟨ret_b (HE.out.trans HB.out.symm), HW.out _⟩
    · have HA : Hid (k.a = k'.a) := HP.out.1 (by omega)
      by_cases hc : k.b = k'.b
      · have HC : Hid (k.b = k'.b) := hc
        have e0 : cmI k.b k'.b = 0 := by rw [hc]; exact cm_eq _
        clear hc
        go_upto_region 4 with fail
        go_quiet ((go_at_call 83; exact Calls.quiet_of_same (H46.out _ _ _)))
        go_wp2_with fail
        exact ⟨⟨2, by omega, by omega, rfl, ⟨fun _ => HA.out, fun q => HC.out, fun q => by omega⟩, HW.out _⟩, by simp [intOf]⟩
      · obtain ⟨e0, e1⟩ := cm_ne hc
        have HB : Hid (B = decide (k.b < k'.b)) := Lb.out HA.out hc
        have HE : Hid (decide (cmI k.b k'.b < 0) = decide (k.b < k'.b)) := e1
        clear hc e1
        go_upto_region 4 with fail
        go_quiet ((go_at_call 83; exact Calls.quiet_of_same (H46.out _ _ _)))
        go_wp2_with fail
        go_ret
        exact ⟨ret_b (HE.out.trans HB.out.symm), HW.out _⟩
    · have HA : Hid (k.a = k'.a) := HP.out.1 (by omega)
      have HC : Hid (k.b = k'.b) := HP.out.2.1 (by omega)
      by_cases hc : k.c = k'.c
      · have HD : Hid (k.c = k'.c) := hc
        have e0 : cmI k.c k'.c = 0 := by rw [hc]; exact cm_eq _
        clear hc
        go_upto_region 4 with fail
        go_quiet ((go_at_call 83; exact Calls.quiet_of_same (H46.out _ _ _)))
        go_wp2_with fail
        exact ⟨⟨3, by omega, by omega, rfl, ⟨fun _ => HA.out, fun q => HC.out, fun q => HD.out⟩, HW.out _⟩, by simp [intOf]⟩
      · obtain ⟨e0, e1⟩ := cm_ne hc
        have HB : Hid (B = decide (k.c < k'.c)) := Lc.out HA.out HC.out hc
        have HE : Hid (decide (cmI k.c k'.c < 0) = decide (k.c < k'.c)) := e1
        clear hc e1
        go_upto_region 4 with fail
        go_quiet ((go_at_call 83; exact Calls.quiet_of_same (H46.out _ _ _)))
        go_wp2_with fail
        go_ret
        exact ⟨ret_b (HE.out.trans HB.out.symm), HW.out _⟩
    · have HB : Hid (B = decide ((h : Int) < h')) := Lh.out (HP.out.1 (by omega)) (HP.out.2.1 (by omega)) (HP.out.2.2 (by omega))
      go_upto_region 8 with fail
      go_quiet (fail)
      go_wp2_with fail
      go_ret
      exact ⟨ret_b (by rw [HB.out]; by_cases q : h < h' <;> simp [q]), HW.out _⟩
end Go.Proofs.Ythlbeofonbbbdaa
