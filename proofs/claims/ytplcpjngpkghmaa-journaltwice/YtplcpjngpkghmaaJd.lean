/-
  The journal's open, and decode of no bytes; mend.
-/
import Derived.Test.YtplcpjngpkghmaaJc
namespace Go.Proofs.Ytplcpjngpkghmaa
open Go.RowKit Go.Maps

/-- what is in the frame that the bytes begin with, and how many bytes it has -/
def ojD (l : List UInt8) : List UInt8 × Nat := match Crc.opened (l.take 4088) with
  | none => ([], 0)
  | some (x, y) => (x, (l.take 4088).length - y.length)
theorem opened_len {l x y : List UInt8} (h : Crc.opened l = some (x, y)) : y.length + 8 + x.length = l.length := by
  unfold Crc.opened at h
  split at h
  · cases h
  · split at h
    · cases h
    · split at h
      · simp only [Option.some.injEq, Prod.mk.injEq] at h
        obtain ⟨rfl, rfl⟩ := h
        simp only [List.length_take, List.length_drop]
        omega
      · cases h
set_option maxHeartbeats 1000000 in
set_option maxRecDepth 100000 in
theorem open70_at (l m : List UInt8) (a : Option Addr) (c n k : Nat) (w : World) (hm : Hid (l.take 4088 = m)) (hk : Hid (m.length = k)) (hmin : min (n : Int) 4088 = (k : Int)) (hkc : k ≤ c) (hc : c ≤ 9223372036854775807) (hz : Hid (a = none → c = 0)) (ha : Hid (Lies w a m)) (hn : n ≤ 140737488355328) :
    Calls Try.prog 70 #[.slice a n c] w fun e w' => ∃ q c', e = .returned (.tuple #[.slice q (ojD l).1.length c', .int .i64 (ojD l).2]) ∧ Own w' w.heap.size (.slice q (ojD l).1.length c') (ojD l).1 ∧ Below w.heap.size w w' := by
  have H77 : Hid (Calls Try.prog 77 #[.slice a k c] w fun e w' => openAns w w' m e ∧ Below w.heap.size w w') := by
    have h1 := open_any m a c w ha.out hz.out (by rw [hk.out]; exact hkc) (by rw [hk.out]; omega)
    rw [hk.out] at h1
    exact h1
  have HO : Hid (ojD l = match Crc.opened m with | none => ([], 0) | some (x, y) => (x, k - y.length)) := by
    refine (?_ : _ = _)
    unfold ojD
    rw [hm.out]
    cases Crc.opened m with
    | none => rfl
    | some p => rw [← hk.out]
  cases a with
  | none =>
    have hc0 := hz.out rfl
    subst hc0
    have hk0 : k = 0 := by omega
    subst hk0
    go_enter Try.func70, Try.ntmps70
    go_wp2_with (go_at_call 77; refine H77.out.mono ?_)
    first | rintro e w1 h1 b1 | rintro e w1 ⟨h1, b1⟩
    unfold openAns at h1
    have hm0 : m = [] := List.eq_nil_of_length_eq_zero hk.out
    have e0 : Crc.opened m = none := by rw [hm0]; rfl
    rw [e0] at h1 HO
    subst h1
    go_wp2_with fail
    go_ret2
    rw [HO.out]
    exact ⟨_, _, rfl, Own.nil _ _, b1⟩
  | some ad =>
    go_enter Try.func70, Try.ntmps70
    go_wp2_with (go_at_call 77; refine H77.out.mono ?_)
    first | rintro e w1 h1 b1 | rintro e w1 ⟨h1, b1⟩
    unfold openAns at h1
    cases hop : Crc.opened m with
    | none =>
      rw [hop] at h1 HO
      subst h1
      go_wp2_with fail
      go_ret2
      rw [HO.out]
      exact ⟨_, _, rfl, Own.nil _ _, b1⟩
    | some p =>
      obtain ⟨x, y⟩ := p
      rw [hop] at h1 HO
      obtain ⟨q, c1, q2, c2, rfl, o1, o2, -⟩ := h1
      have hlen := opened_len hop
      have hyk : y.length ≤ k := by have := hk.out; omega
      have O1 : Hid (Own w1 w.heap.size (.slice q x.length c1) x) := o1
      have B1 : Hid (Below w.heap.size w w1) := b1
      clear o1 o2 b1 hlen hop
      go_wp2_with fail
      go_ret2
      rw [HO.out]
      exact ⟨q, c1, by rw [Int.ofNat_sub hyk]; rfl, O1.out, B1.out⟩
theorem open70_any (l : List UInt8) (a : Option Addr) (c : Nat) (w : World) (ha : Lies w a l) (hz : a = none → c = 0) (hlc : l.length ≤ c) (hc : c ≤ 9223372036854775807) (hl : l.length ≤ 140737488355328) :
    Calls Try.prog 70 #[.slice a l.length c] w fun e w' => ∃ q c', e = .returned (.tuple #[.slice q (ojD l).1.length c', .int .i64 (ojD l).2]) ∧ Own w' w.heap.size (.slice q (ojD l).1.length c') (ojD l).1 ∧ Below w.heap.size w w' :=
  open70_at l (l.take 4088) a c l.length (l.take 4088).length w rfl rfl (by rw [List.length_take]; omega) (by rw [List.length_take]; omega) hc hz (by
    rcases ha with rfl | ⟨g, o, e, h⟩
    · exact .inl (by simp)
    · refine .inr ⟨g, o, e, fun k x hx => h k x ?_⟩
      rw [List.getElem?_take] at hx
      split at hx
      · exact hx
      · cases hx) hl

set_option maxHeartbeats 1000000 in
theorem decode_nil (w : World) : Calls Try.prog 62 #[.slice none 0 0] w fun e w' => e = .returned (.tuple #[.int .i64 0, .slice none 0 0, .int .i64 0]) ∧ Below w.heap.size w w' := by
  have H : Hid (Calls Try.prog 70 #[.slice none 0 0] w fun e w' => ∃ q c', e = .returned (.tuple #[.slice q 0 c', .int .i64 0]) ∧ Below w.heap.size w w') := by
    refine (open70_any [] none 0 w (.inl rfl) (fun _ => rfl) (Nat.le_refl _) (by omega) (Nat.zero_le _)).mono ?_
    rintro e w' ⟨q, c', rfl, _, b⟩
    exact ⟨q, c', rfl, b⟩
  go_enter Try.func62, Try.ntmps62
  go_wp2_with (go_at_call 70; refine H.out.mono ?_)
  rintro e w1 ⟨q, c', rfl, b1⟩
  go_wp2_with fail
  go_ret3
  exact ⟨rfl, b1⟩
end Go.Proofs.Ytplcpjngpkghmaa
