/-
  Whether now and the ends are what they may be: within.
-/
import Derived.Test.YtjgibngnjlciaaaGreatEa
namespace Go.Proofs.YtjgibngnjlciaaaGreat
open Go.RowKit Go.Maps Go.WideMaps Go.Sort

/-- an end that may not be -/
def evil (v : Vi) : Bool := decide (v.p < 0 ∨ 1099511627776 < v.p)
def wthn (now : Int) (R : List Vi) : Bool := decide (0 ≤ now ∧ now < 1099511627776 ∧ R.length ≤ 100 ∧ R.any evil = false)
theorem any_bad {α : Type} (p : α → Bool) {l : List α} {k : Nat} {x : α} (hx : l[k]? = some x) (hp : p x = true) : l.any p = true := List.any_eq_true.2 ⟨x, List.mem_of_getElem? hx, hp⟩
theorem none_take {α : Type} (p : α → Bool) {l : List α} {k : Nat} {x : α} (hx : l[k]? = some x) (h : (l.take k).any p = false) (hp : p x = false) : (l.take (k + 1)).any p = false := by
  rw [List.take_add_one, hx, List.any_append, h]
  simp [hp]
theorem cl36 (v : Vi) (w : World) : Calls Tryz.prog 40 #[.agg #[.int .i64 v.j, .int .i64 v.p, .slice v.qT v.nT v.cT, .slice v.qN v.nN v.cN]] w fun e w' => e = .returned (.bool (evil v)) ∧ Hid (Below w.heap.size w w') := by
  by_cases h1 : v.p < 0
  · have he : Hid (evil v = true) := by show _ = _; unfold evil; exact decide_eq_true (.inl h1)
    go_enter Tryz.func40, Tryz.ntmps40
    go_wp2_with fail
    go_ret
    exact ⟨by rw [he.out]; rfl, (Below.refl _ _).alloc (Nat.le_refl _) _⟩
  · by_cases h2 : 1099511627776 < v.p
    · have he : Hid (evil v = true) := by show _ = _; unfold evil; exact decide_eq_true (.inr h2)
      go_enter Tryz.func40, Tryz.ntmps40
      go_wp2_with fail
      go_ret
      exact ⟨by rw [he.out]; rfl, (Below.refl _ _).alloc (Nat.le_refl _) _⟩
    · have he : Hid (evil v = false) := by show _ = _; unfold evil; exact decide_eq_false (by omega)
      go_enter Tryz.func40, Tryz.ntmps40
      go_wp2_with fail
      go_ret
      exact ⟨by rw [he.out]; rfl, (Below.refl _ _).alloc (Nat.le_refl _) _⟩
/-- what IndexFunc answers -/
def IxE (R : List Vi) (e : Ending) : Prop := ∃ i : Int, e = .returned (.int .i64 i) ∧ decide (0 ≤ i) = R.any evil
set_option maxHeartbeats 1000000 in
theorem ixf_any (R : List Vi) (q : Option Addr) (n c : Nat) (w : World) (hR : Hid (VA w q R)) (hn : Hid (R.length = n)) (n1 : n ≤ 1000000) :
    Calls Tryz.prog 59 #[.slice q n c, .func (.func 40) #[] #[]] w fun e w' => IxE R e ∧ Hid (Below w.heap.size w w') := by
  go_enter Tryz.func59, Tryz.ntmps59
  go_wp2_with fail
  go_loopw [8] (fun x wr => ∃ k : Nat, x = .int .i64 k ∧ k ≤ n ∧ Hid ((R.take k).any evil = false ∧ Below w.heap.size w wr)) (fun x _ => n - (intOf x).toNat)
  case atStart => exact ⟨0, rfl, Nat.zero_le _, rfl, Below.refl _ _⟩
  case round =>
    obtain ⟨k, rfl, hk, HB⟩ := hrel
    by_cases h0 : k = n
    · subst h0
      go_wp2_with fail
      go_ret
      refine ⟨⟨-1, rfl, ?_⟩, HB.out.2⟩
      have := HB.out.1
      rw [List.take_of_length_le (Nat.le_of_eq hn.out)] at this
      rw [this]; rfl
    · have hlt' : (k : Int) < (n : Int) := by omega
      have hd : decide ((k : Int) < (n : Int)) = true := decide_eq_true hlt'
      obtain ⟨v, hv⟩ : ∃ v, R[k]? = some v := ⟨R[k]'(by have := hn.out; omega), List.getElem?_eq_getElem _⟩
      obtain ⟨g, o, rfl, c0, c1, c2, c3⟩ := VA.at (hR.out.below HB.out.2) hv
      have HV : Hid (R[k]? = some v) := hv
      have H36 : Hid (∀ w1, Calls Tryz.prog 40 #[.agg #[.int .i64 v.j, .int .i64 v.p, .slice v.qT v.nT v.cT, .slice v.qN v.nN v.cN]] w1 fun e w' => e = .returned (.bool (evil v)) ∧ Hid (Below w1.heap.size w1 w')) := fun w1 => cl36 v w1
      clear hv
      obtain ⟨b, hb⟩ : ∃ b, b = evil v := ⟨_, rfl⟩
      rw [← hb] at H36
      have HE : Hid (evil v = b) := hb.symm
      clear hb
      cases b with
      | true =>
        go_wp2_with (go_at_call 40; refine (H36.out _).mono ?_; rintro e w1 ⟨rfl, b1⟩)
        go_ret
        refine ⟨⟨(k : Int), rfl, ?_⟩, HB.out.2.trans (b1.out.mono HB.out.2.size)⟩
        rw [any_bad evil HV.out HE.out]
        exact decide_eq_true (by omega)
      | false =>
        go_wp2_with (go_at_call 40; refine (H36.out _).mono ?_; rintro e w1 ⟨rfl, b1⟩)
        exact ⟨⟨k + 1, by simp, by omega, none_take evil HV.out HB.out.1 HE.out, HB.out.2.trans (b1.out.mono HB.out.2.size)⟩, by simp only [intOf]; omega⟩
theorem has_any (R : List Vi) (q : Option Addr) (n c : Nat) (w : World) (hR : Hid (VA w q R)) (hn : Hid (R.length = n)) (n1 : n ≤ 1000000) :
    Calls Tryz.prog 39 #[.slice q n c, .func (.func 40) #[] #[]] w fun e w' => e = .returned (.bool (R.any evil)) ∧ Hid (Below w.heap.size w w') := by
  have H : Hid (Calls Tryz.prog 59 #[.slice q n c, .func (.func 40) #[] #[]] w fun e w' => IxE R e ∧ Hid (Below w.heap.size w w')) := ixf_any R q n c w hR hn n1
  clear hR hn
  go_enter Tryz.func39, Tryz.ntmps39
  go_wp2_with (go_at_call 59; refine H.out.mono ?_; rintro e w1 ⟨⟨i, rfl, hi⟩, b1⟩)
  go_ret
  exact ⟨by rw [← hi]; rfl, b1⟩
theorem within_any (now : Int) (R : List Vi) (q : Option Addr) (n c : Nat) (w : World) (hR : Hid (VA w q R)) (hn : Hid (R.length = n)) (n1 : n ≤ 1000000) :
    Calls Tryz.prog 17 #[.int .i64 now, .slice q n c] w fun e w' => e = .returned (.bool (wthn now R)) ∧ Hid (Below w.heap.size w w') := by
  have H : Hid (Calls Tryz.prog 39 #[.slice q n c, .func (.func 40) #[] #[]] w fun e w' => e = .returned (.bool (R.any evil)) ∧ Hid (Below w.heap.size w w')) := has_any R q n c w hR hn n1
  have HL : Hid (R.length = n) := hn
  clear hR hn
  by_cases h1 : now < 0
  · have he : Hid (wthn now R = false) := by show _ = _; unfold wthn; exact decide_eq_false (by omega)
    go_enter Tryz.func17, Tryz.ntmps17
    go_wp2_with fail
    go_ret
    exact ⟨by rw [he.out]; rfl, Below.refl _ _⟩
  · by_cases h2 : 1099511627776 ≤ now
    · have he : Hid (wthn now R = false) := by show _ = _; unfold wthn; exact decide_eq_false (by omega)
      go_enter Tryz.func17, Tryz.ntmps17
      go_wp2_with fail
      go_ret
      exact ⟨by rw [he.out]; rfl, Below.refl _ _⟩
    · by_cases h3 : (100 : Int) < (n : Int)
      · have he : Hid (wthn now R = false) := by show _ = _; unfold wthn; exact decide_eq_false (by have := HL.out; omega)
        go_enter Tryz.func17, Tryz.ntmps17
        go_wp2_with fail
        go_ret
        exact ⟨by rw [he.out]; rfl, Below.refl _ _⟩
      · have he : Hid (wthn now R = !(R.any evil)) := by
          show _ = _
          unfold wthn
          have := HL.out
          cases R.any evil with
          | true => exact decide_eq_false (by simp)
          | false => exact decide_eq_true ⟨by omega, by omega, by omega, rfl⟩
        generalize R.any evil = b at *
        go_enter Tryz.func17, Tryz.ntmps17
        go_wp2_with (go_at_call 39; refine H.out.mono ?_; rintro e w1 ⟨rfl, b1⟩)
        go_ret
        exact ⟨by rw [he.out]; rfl, b1⟩
end Go.Proofs.YtjgibngnjlciaaaGreat
