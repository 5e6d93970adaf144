/-
  The document's reader: Number. The document's reader: Vector. The document's reader: Text.
-/
import Derived.Test.YtnkkiepoljbhlaaDj
import Derived.BigQuiet
namespace Go.Proofs.Ytnkkiepoljbhlaa
open Go.RowKit

/-- the document's reader -/
def Rf (w : World) (rb : Nat) (l : List UInt8) (at' : Nat) (bad : Bool) : Prop := ∃ p c, w.heap[rb]? = some (.cells #[.slice p l.length c, .int .i64 at', .bool bad] 93 (0, 0)) ∧ Byt w rb p c l
theorem numA_step7 {l : List UInt8} {i j m : Nat} {b : UInt8} (hb : l[j]? = some b) : numA 7 i m (l.drop j) = if 7 ≤ i then none else if 128 ≤ b.toNat then numA 7 (i + 1) (m + b.toNat % 128 * 128 ^ i) (l.drop (j + 1)) else if b.toNat = 0 ∧ 0 < i then none else some (m + b.toNat % 128 * 128 ^ i, l.drop (j + 1)) := by
  obtain ⟨h1, h2⟩ := List.getElem?_eq_some_iff.1 hb
  rw [List.drop_eq_getElem_cons h1, h2]
  rfl
theorem three_cells {w : World} {g : Nat} {a b c : Value} {t : TypeId} (h : w.heap[g]? = some (.cells #[a, b, c] t (0, 0))) : (w.cell? ⟨g, 0, none⟩ = some a ∧ w.cell? ⟨g, 1, none⟩ = some b ∧ w.cell? ⟨g, 2, none⟩ = some c) ∧ w.frozen? ⟨g, 0, none⟩ = false ∧ w.frozen? ⟨g, 1, none⟩ = false ∧ w.frozen? ⟨g, 2, none⟩ = false := by
  unfold World.cell? World.frozen?
  rw [h]
  simp
theorem Rf.lt {w : World} {rb a : Nat} {l : List UInt8} {bad : Bool} (h : Rf w rb l a bad) : rb < w.heap.size := by
  obtain ⟨p, c, hb, _⟩ := h
  exact (Array.getElem?_eq_some_iff.1 hb).1
theorem Rf.at {w : World} {rb a : Nat} {l : List UInt8} {bad : Bool} (h : Rf w rb l a bad) (k : Nat) : Rf (w.setCell ⟨rb, 1, none⟩ (.int .i64 k)) rb l k bad := by
  have hl := h.lt
  obtain ⟨p, c, hb, hB⟩ := h
  exact ⟨p, c, Joins.block_setCell hb _, hB.keep ((RdK.refl rb w).set _) hl⟩
theorem Rf.bad {w : World} {rb a : Nat} {l : List UInt8} {bad : Bool} (h : Rf w rb l a bad) : Rf (w.setCell ⟨rb, 2, none⟩ (.bool true)) rb l a true := by
  have hl := h.lt
  obtain ⟨p, c, hb, hB⟩ := h
  exact ⟨p, c, Joins.block_setCell hb _, hB.keep ((RdK.refl rb w).set _) hl⟩
theorem Rf.drew {w : World} {rb a q : Nat} {l : List UInt8} {bad : Bool} (h : Rf w rb l a bad) : Rf (w.drewN q) rb l a bad := by
  obtain ⟨p, c, hb, hB⟩ := h
  exact ⟨p, c, hb, hB.ly, hB.nc, hB.bl, hB.cm⟩
theorem RdK.drew {rb q : Nat} {w0 w : World} (h : RdK rb w0 w) : RdK rb w0 (w.drewN q) := ⟨h.os, h.tape, h.output, h.size, h.block⟩
/-- what Number answers -/
def RNum (w w' : World) (rb : Nat) (l : List UInt8) (a : Nat) (bad : Bool) (m k : Nat) (bad' : Bool) : Prop :=
  m < 562949953421312 ∧ a ≤ k ∧ k ≤ l.length ∧ Rf w' rb l k bad' ∧ RdK rb w w' ∧ ((numD 7 (l.drop a) = some (m, l.drop k) ∧ bad' = bad) ∨ (numD 7 (l.drop a) = none ∧ bad' = true))
theorem numA_end {i m : Nat} (l : List UInt8) (hi : 7 ≤ i) : numA 7 i m l = none := by
  cases l with
  | nil => rfl
  | cons b l => unfold numA; exact if_pos hi
theorem racc {m i : Nat} (b : UInt8) (hm : m < 128 ^ i) (hi : i ≤ 6) : wrap64 ((m : Int) + wrap64 ((b.toNat : Int) % 128 * 2 ^ (7 * i))) = ((m + b.toNat % 128 * 128 ^ i : Nat) : Int) := by
  have hb := b.toNat_lt
  have hp : (128 : Nat) ^ i = 2 ^ (7 * i) := by rw [Nat.pow_mul]
  have h2 := acc_lt (x := b.toNat) hm
  have h3 : 128 ^ (i + 1) ≤ 128 ^ 7 := Nat.pow_le_pow_right (by decide) (by omega)
  have h4 : (128 : Nat) ^ 7 = 562949953421312 := by decide
  rw [show (b.toNat : Int) % 128 * 2 ^ (7 * i) = ((b.toNat % 128 * 128 ^ i : Nat) : Int) by rw [hp]; simp, wr64 (by omega), show (m : Int) + ((b.toNat % 128 * 128 ^ i : Nat) : Int) = ((m + b.toNat % 128 * 128 ^ i : Nat) : Int) by omega, wr64 (by omega)]
theorem pow7 {m i : Nat} (hm : m < 128 ^ i) (hi : i ≤ 7) : m < 562949953421312 := by
  have h3 : 128 ^ i ≤ 128 ^ 7 := Nat.pow_le_pow_right (by decide) hi
  have h4 : (128 : Nat) ^ 7 = 562949953421312 := by decide
  omega
set_option maxHeartbeats 4000000 in
set_option maxRecDepth 100000 in
theorem rnumber_any (w : World) (rb at0 : Nat) (l : List UInt8) (bad : Bool) (h : Rf w rb l at0 bad) (ha : at0 ≤ l.length) : Calls Try.prog 62 #[.pointer (some ⟨rb, 0, none⟩)] w fun e w' => ∃ (m k : Nat) (bad' : Bool), e = .returned (.int .i64 m) ∧ Hid (RNum w w' rb l at0 bad m k bad') := by
  obtain ⟨n, hn⟩ : ∃ n, l.length = n := ⟨_, rfl⟩
  have HN : Hid (l.length = n) := hn
  have hn60 : n < 1152921504606846976 := by obtain ⟨p, c, _, hB⟩ := h; have := hB.cm; omega
  have HR : Hid (Rf w rb l at0 bad) := h
  have ha' : at0 ≤ n := by omega
  clear h hn ha
  go_enter Try.func62, Try.ntmps62
  go_wp2_with fail
  go_loopw [3, 4, 5] (fun x y z wr => ∃ (i m : Nat), x = .int .i64 m ∧ y = .int .u64 (7 * i : Nat) ∧ z = .int .i64 i ∧ i ≤ 7 ∧ at0 + i ≤ n ∧ Hid (m < 128 ^ i ∧ numA 7 0 0 (l.drop at0) = numA 7 i m (l.drop (at0 + i)) ∧ Rf wr rb l (at0 + i) bad ∧ RdK rb w wr)) (fun _ _ z _ => 7 - (intOf z).toNat)
  case atStart => exact ⟨0, 0, rfl, rfl, rfl, by omega, by omega, by decide, rfl, HR.out, RdK.refl _ _⟩
  case round =>
    obtain ⟨i, m, rfl, rfl, rfl, hi, hat, HI⟩ := hrel
    by_cases h7 : i = 7
    · subst h7
      obtain ⟨p, c, hb, hB⟩ := HI.out.2.2.1
      rw [HN.out] at hb
      obtain ⟨⟨c0, c1, c2⟩, f0, f1, f2⟩ := three_cells hb
      clear hb hB
      go_wp2_with fail
      go_returns
      exact ⟨0, at0 + 7, true, rfl, by decide, by omega, by rw [HN.out]; exact hat, HI.out.2.2.1.bad, HI.out.2.2.2.set _, .inr ⟨HI.out.2.1.trans (numA_end _ (Nat.le_refl _)), rfl⟩⟩
    · have hi7 : (i : Int) < 7 := by omega
      obtain ⟨p, c, hb, hB⟩ := HI.out.2.2.1
      rw [HN.out] at hb
      obtain ⟨⟨c0, c1, c2⟩, f0, f1, f2⟩ := three_cells hb
      have HB : Hid (wr.heap[rb]? = some (.cells #[.slice p n c, .int .i64 ((at0 + i : Nat) : Int), .bool bad] 93 (0, 0)) ∧ Byt wr rb p c l) := ⟨hb, hB⟩
      clear hb hB
      obtain ⟨k, hk⟩ : ∃ k, at0 + i = k := ⟨_, rfl⟩
      have HK : Hid (at0 + i = k) := hk
      rw [hk] at c1 hat
      clear hk
      by_cases he : k = n
      · have he' : (n : Int) ≤ (k : Int) := by omega
        go_wp2_with fail
        go_quiet (fail)
        go_wp2_with fail
        go_returns
        refine ⟨0, at0 + i, true, rfl, by decide, by omega, by rw [HN.out, HK.out]; exact hat, HI.out.2.2.1.drew.bad, HI.out.2.2.2.drew.set _, .inr ⟨HI.out.2.1.trans ?_, rfl⟩⟩
        rw [List.drop_eq_nil_of_le (by rw [HN.out, HK.out]; omega)]
        rfl
      · have hkn : ¬ (n : Int) ≤ (k : Int) := by omega
        have hkn2 : (k : Int) < (n : Int) := by omega
        obtain ⟨b, hbb⟩ : ∃ b, l[k]? = some b := ⟨l[k]'(by have := HN.out; omega), List.getElem?_eq_getElem _⟩
        obtain ⟨g, o, rfl, hrow⟩ : ∃ g o, p = some ⟨g, o, none⟩ ∧ Row wr g o l := by
          rcases HB.out.2.ly with e | h
          · rw [e] at hbb; cases hbb
          · exact h
        have d0 := hrow k b hbb
        have hu := u8_bd b
        have hacc := racc b HI.out.1 (by omega)
        have HS : Hid (m + b.toNat % 128 * 128 ^ i < 128 ^ (i + 1) ∧ numD 7 (l.drop at0) = if 7 ≤ i then none else if 128 ≤ b.toNat then numA 7 (i + 1) (m + b.toNat % 128 * 128 ^ i) (l.drop (k + 1)) else if b.toNat = 0 ∧ 0 < i then none else some (m + b.toNat % 128 * 128 ^ i, l.drop (k + 1))) := ⟨acc_lt HI.out.1, HI.out.2.1.trans (by rw [HK.out]; exact numA_step7 hbb)⟩
        generalize m + b.toNat % 128 * 128 ^ i = m2 at *
        have HW : Hid (∀ q, Rf ((wr.drewN q).setCell ⟨rb, 1, none⟩ (.int .i64 ((k : Int) + 1))) rb l (k + 1) bad ∧ RdK rb w ((wr.drewN q).setCell ⟨rb, 1, none⟩ (.int .i64 ((k : Int) + 1)))) := fun q => ⟨HI.out.2.2.1.drew.at (k + 1), HI.out.2.2.2.drew.set _⟩
        have hk1 : at0 + i = k := HK.out
        clear hrow he hbb HI
        by_cases h2 : 128 ≤ b.toNat
        · have g1 : ¬ (b.toNat : Int) < 128 := by omega
          have HS2 : Hid (m2 < 128 ^ (i + 1) ∧ numA 7 0 0 (l.drop at0) = numA 7 (i + 1) m2 (l.drop (k + 1))) := by
            have := HS.out
            rw [if_neg (by omega), if_pos h2] at this
            exact this
          clear HS h2 hk1
          go_wp2_with fail
          go_quiet (fail)
          go_wp2_with fail
          go_quiet (fail)
          go_wp2_with fail
          refine ⟨⟨i + 1, m2, by rw [hacc], by go_num, by go_num, by omega, by have := HK.out; omega, HS2.out.1, ?_, ?_, ?_⟩, by simp only [intOf]; omega⟩
          · rw [show at0 + (i + 1) = k + 1 by have := HK.out; omega]; exact HS2.out.2
          · rw [show at0 + (i + 1) = k + 1 by have := HK.out; omega]; exact (HW.out _).1
          · exact (HW.out _).2
        · have g1 : (b.toNat : Int) < 128 := by omega
          by_cases h3 : b.toNat = 0 ∧ 0 < i
          · have HS2 : Hid (m2 < 128 ^ (i + 1) ∧ numD 7 (l.drop at0) = none) := by
              have := HS.out
              rw [if_neg (by omega), if_neg h2, if_pos h3] at this
              exact this
            have g6 : ((b.toNat : Int) == 0) = true := by rw [beq_iff_eq]; omega
            have g4 : (0 : Int) < (i : Int) := by omega
            have g5 : decide ((0 : Int) < (i : Int)) = true := decide_eq_true g4
            clear HS h2 h3 hk1
            go_wp2_with fail
            go_quiet (fail)
            go_wp2_with fail
            go_quiet (fail)
            go_wp2_with fail
            go_returns
            exact ⟨m2, k + 1, true, (by rw [hacc]; rfl), pow7 HS2.out.1 (by omega), by have := HK.out; omega, by rw [HN.out]; omega, (HW.out _).1.bad, (HW.out _).2.set _, .inr ⟨HS2.out.2, rfl⟩⟩
          · have HS2 : Hid (m2 < 128 ^ (i + 1) ∧ numD 7 (l.drop at0) = some (m2, l.drop (k + 1))) := by
              have := HS.out
              rw [if_neg (by omega), if_neg h2, if_neg h3] at this
              exact this
            by_cases b0 : b.toNat = 0
            · have g6 : ((b.toNat : Int) == 0) = true := by rw [beq_iff_eq]; omega
              have g4 : ¬ (0 : Int) < (i : Int) := by omega
              have g5 : decide ((0 : Int) < (i : Int)) = false := decide_eq_false g4
              clear HS h2 h3 hk1 b0
              go_wp2_with fail
              go_quiet (fail)
              go_wp2_with fail
              go_quiet (fail)
              go_wp2_with fail
              go_returns
              exact ⟨m2, k + 1, bad, (by rw [hacc]; rfl), pow7 HS2.out.1 (by omega), by have := HK.out; omega, by rw [HN.out]; omega, (HW.out _).1, (HW.out _).2, .inl ⟨HS2.out.2, rfl⟩⟩
            · have g6 : ((b.toNat : Int) == 0) = false := by rw [beq_eq_false_iff_ne]; omega
              clear HS h2 h3 hk1 b0
              go_wp2_with fail
              go_quiet (fail)
              go_wp2_with fail
              go_quiet (fail)
              go_wp2_with fail
              go_returns
              exact ⟨m2, k + 1, bad, (by rw [hacc]; rfl), pow7 HS2.out.1 (by omega), by have := HK.out; omega, by rw [HN.out]; omega, (HW.out _).1, (HW.out _).2, .inl ⟨HS2.out.2, rfl⟩⟩
end Go.Proofs.Ytnkkiepoljbhlaa

namespace Go.Proofs.Ytnkkiepoljbhlaa
open Go.RowKit

/-- four numbers, read strictly -/
def vecD (l : List UInt8) : Option (V4 × List UInt8) := (numD 7 l).bind fun a => (numD 7 a.2).bind fun b => (numD 7 b.2).bind fun c => (numD 7 c.2).bind fun d => some (⟨(a.1 : Nat), (b.1 : Nat), (c.1 : Nat), (d.1 : Nat)⟩, d.2)
theorem rf_set_off {w : World} {rb k i a : Nat} {v : Value} {l : List UInt8} {bad : Bool} (h : Rf w rb l a bad) (hk : rb < k) : Rf (w.setCell ⟨k, i, none⟩ v) rb l a bad := by
  have hb : ∀ j, j ≠ k → (w.setCell ⟨k, i, none⟩ v).heap[j]? = w.heap[j]? := fun j hj => Below.heap_setCell _ _ _ _ (fun e => hj e)
  obtain ⟨p, c, h1, h2⟩ := h
  refine ⟨p, c, (hb rb (by omega)).trans h1, ?_, h2.nc, h2.bl, h2.cm⟩
  rcases h2.ly with e | ⟨g, o, rfl, hrow⟩
  · exact .inl e
  · refine .inr ⟨g, o, rfl, fun i x hx => ?_⟩
    have h3 := (h2.bl _ rfl).1
    have h1 := hrow i x hx
    unfold World.cell? at h1 ⊢
    rw [hb g (by simp only at h3; omega)]
    exact h1
theorem Rf.below {w w1 : World} {rb a : Nat} {l : List UInt8} {bad : Bool} (h : Rf w rb l a bad) (b : Below w.heap.size w w1) : Rf w1 rb l a bad := by
  have hl := h.lt
  obtain ⟨p, c, h1, h2⟩ := h
  exact ⟨p, c, (b.block rb hl).trans h1, h2.keep (RdK.of_below b) hl⟩
/-- while a vector is read -/
structure VT (w0 w : World) (rb : Nat) (l : List UInt8) (k : Nat) (bad : Bool) (a b c d : Int) : Prop where
  rd : Rf w rb l k bad
  le : k ≤ l.length
  lt : rb < w0.heap.size
  b0 : w.heap[w0.heap.size]? = some (.cells #[.int .i64 0, .int .i64 0, .int .i64 0, .int .i64 0] 23 (0, 0))
  b1 : w.heap[w0.heap.size + 1]? = some (.cells #[.int .i64 a, .int .i64 b, .int .i64 c, .int .i64 d] 23 (0, 0))
  kp : RdK rb w0 w
theorem VT.set {w0 w : World} {rb k : Nat} {l : List UInt8} {bad : Bool} {a b c d : Int} (h : VT w0 w rb l k bad a b c d) {i : Nat} (x : Int) {a' b' c' d' : Int} (he : #[Value.int .i64 a, .int .i64 b, .int .i64 c, .int .i64 d].setIfInBounds i (.int .i64 x) = #[Value.int .i64 a', .int .i64 b', .int .i64 c', .int .i64 d']) : VT w0 (w.setCell ⟨w0.heap.size + 1, i, none⟩ (.int .i64 x)) rb l k bad a' b' c' d' := by
  refine ⟨rf_set_off h.rd (by have := h.lt; omega), h.le, h.lt, (Below.heap_setCell _ _ _ _ (fun e => by simp only at e; omega)).trans h.b0, ?_, rdk_set_new h.kp (by omega)⟩
  rw [← he]
  exact Joins.block_setCell h.b1 _
theorem VT.start {w : World} {rb k : Nat} {l : List UInt8} {bad : Bool} (h : Rf w rb l k bad) (hk : k ≤ l.length) : VT w ((w.alloc (Obj.cells #[.int .i64 0, .int .i64 0, .int .i64 0, .int .i64 0] 23)).alloc (Obj.cells #[.int .i64 0, .int .i64 0, .int .i64 0, .int .i64 0] 23)) rb l k bad 0 0 0 0 := by
  have hB : Below w.heap.size w ((w.alloc (Obj.cells #[.int .i64 0, .int .i64 0, .int .i64 0, .int .i64 0] 23)).alloc (Obj.cells #[.int .i64 0, .int .i64 0, .int .i64 0, .int .i64 0] 23)) := ((Below.refl _ w).alloc (Nat.le_refl _) _).alloc (by simp) _
  refine ⟨h.below hB, hk, h.lt, ?_, ?_, RdK.of_below hB⟩
  · refine (Below.heap_alloc _ _ _ (by simp)).trans ?_
    show (Array.push _ _)[_]? = _
    rw [Array.getElem?_push]
    exact if_pos rfl
  · show (Array.push _ _)[_]? = _
    rw [Array.getElem?_push]
    exact if_pos (by simp)
/-- one number more: what is read, where, and whether all has been good -/
def OneD (l : List UInt8) (a : Nat) (bad : Bool) (m k : Nat) (bad' : Bool) : Prop := m < 562949953421312 ∧ a ≤ k ∧ ((numD 7 (l.drop a) = some (m, l.drop k) ∧ bad' = bad) ∨ (numD 7 (l.drop a) = none ∧ bad' = true))
/-- what Vector answers -/
def RVec (w w' : World) (rb : Nat) (l : List UInt8) (a : Nat) (bad : Bool) (v : V4) (k : Nat) (bad' : Bool) : Prop :=
  a ≤ k ∧ k ≤ l.length ∧ Rf w' rb l k bad' ∧ RdK rb w w' ∧ ((vecD (l.drop a) = some (v, l.drop k) ∧ bad' = bad) ∨ (vecD (l.drop a) = none ∧ bad' = true))
theorem vec_of {l : List UInt8} {a k0 k1 k2 k3 n0 n1 n2 n3 : Nat} {bad b0 b1 b2 b3 : Bool} (h0 : OneD l a bad n0 k0 b0) (h1 : OneD l k0 b0 n1 k1 b1) (h2 : OneD l k1 b1 n2 k2 b2) (h3 : OneD l k2 b2 n3 k3 b3) : (vecD (l.drop a) = some (⟨(n0 : Nat), (n1 : Nat), (n2 : Nat), (n3 : Nat)⟩, l.drop k3) ∧ b3 = bad) ∨ (vecD (l.drop a) = none ∧ b3 = true) := by
  unfold vecD
  rcases h0.2.2 with ⟨e0, rfl⟩ | ⟨e0, rfl⟩
  · rcases h1.2.2 with ⟨e1, rfl⟩ | ⟨e1, rfl⟩
    · rcases h2.2.2 with ⟨e2, rfl⟩ | ⟨e2, rfl⟩
      · rcases h3.2.2 with ⟨e3, rfl⟩ | ⟨e3, rfl⟩
        · exact .inl ⟨by simp [e0, e1, e2, e3], rfl⟩
        · exact .inr ⟨by simp [e0, e1, e2, e3], rfl⟩
      · exact .inr ⟨by simp [e0, e1, e2], by rcases h3.2.2 with ⟨_, h⟩ | ⟨_, h⟩ <;> exact h⟩
    · have hb2 : b2 = true := by rcases h2.2.2 with ⟨_, h⟩ | ⟨_, h⟩ <;> exact h
      exact .inr ⟨by simp [e0, e1], by rcases h3.2.2 with ⟨_, h⟩ | ⟨_, h⟩ <;> simp [h, hb2]⟩
  · have hb1 : b1 = true := by rcases h1.2.2 with ⟨_, h⟩ | ⟨_, h⟩ <;> exact h
    have hb2 : b2 = true := by rcases h2.2.2 with ⟨_, h⟩ | ⟨_, h⟩ <;> simp [h, hb1]
    exact .inr ⟨by simp [e0], by rcases h3.2.2 with ⟨_, h⟩ | ⟨_, h⟩ <;> simp [h, hb2]⟩
theorem res63 : Try.f63.results = #[.cell 2 23] := rfl
theorem back63 (tmps : Array Value) (w : World) (g : Nat) (cs : Array Value) (hp : tmps.getD 2 undef = .pointer (some ⟨g, 0, none⟩)) (hg : w.heap[g]? = some (.cells cs 23 (0, 0))) (hs : cs.size = 4) : (results Try.f63 tmps).run Try.prog w = .ok (.agg cs) w :=
  results_cell_row res63 tmps w g 23 cs (0, 0) _ hp hg Try.underlying23 rfl (by rw [hs]; exact size23)
theorem rf_new {rb k i a : Nat} {w0 w : World} {l : List UInt8} {bad : Bool} (h : Rf w rb l a bad ∧ RdK rb w0 w) (hr : rb < w0.heap.size) (hk : w0.heap.size ≤ k) (v : Value) : Rf (w.setCell ⟨k, i, none⟩ v) rb l a bad ∧ RdK rb w0 (w.setCell ⟨k, i, none⟩ v) := ⟨rf_set_off h.1 (by omega), rdk_set_new h.2 hk⟩
set_option maxHeartbeats 4000000 in
set_option maxRecDepth 100000 in
theorem rvector_any (w : World) (rb at0 : Nat) (l : List UInt8) (bad : Bool) (h : Rf w rb l at0 bad) (ha : at0 ≤ l.length) : Calls Try.prog 63 #[.pointer (some ⟨rb, 0, none⟩)] w fun e w' => ∃ (v : V4) (k : Nat) (bad' : Bool), e = .returned v.v ∧ Hid (RVec w w' rb l at0 bad v k bad') := by
  have H62 : Hid (∀ W k bd a b c d, VT w W rb l k bd a b c d → Calls Try.prog 62 #[.pointer (some ⟨rb, 0, none⟩)] W fun e w' => ∃ (m k' : Nat) (bd' : Bool), e = .returned (.int .i64 m) ∧ Hid (VT w w' rb l k' bd' a b c d ∧ OneD l k bd m k' bd')) := fun W k bd a b c d hv => (rnumber_any W rb k l bd hv.rd hv.le).mono (by
    rintro e w' ⟨m, k', bd', rfl, h2⟩
    obtain ⟨q1, q2, q3, q4, q5, q6⟩ := h2.out
    have z0 := (Array.getElem?_eq_some_iff.1 hv.b0).1
    have z1 := (Array.getElem?_eq_some_iff.1 hv.b1).1
    have := hv.lt
    exact ⟨m, k', bd', rfl, ⟨q4, q3, hv.lt, (q5.block _ z0 (by omega)).trans hv.b0, (q5.block _ z1 (by omega)).trans hv.b1, hv.kp.trans q5⟩, q1, q2, q6⟩)
  have HS : Hid (VT w _ rb l at0 bad 0 0 0 0) := VT.start h ha
  clear h ha
  go_enter Try.func63, Try.ntmps63
  go_wp2_with fail
  refine wp_loop_rounds 5 ?_
  rw [rounds_succ]
  go_wp2_with (go_at_call 62; refine (H62.out _ _ _ _ _ _ _ HS.out).mono ?_; rintro e w1 ⟨n0, m0, d0, rfl, k1⟩; obtain ⟨⟨e0, e1, e2, e3⟩, f0, f1, f2, f3⟩ := four_cells k1.out.1.b1)
  have K1 : Hid (VT w _ rb l m0 d0 n0 0 0 0) := k1.out.1.set (i := 0) (n0 : Nat) (by rfl)
  clear e0 e1 e2 e3 f0 f1 f2 f3
  rw [rounds_succ]
  go_wp2_with (go_at_call 62; refine (H62.out _ _ _ _ _ _ _ K1.out).mono ?_; rintro e w2 ⟨n1, m1, d1, rfl, k2⟩; obtain ⟨⟨e0, e1, e2, e3⟩, f0, f1, f2, f3⟩ := four_cells k2.out.1.b1)
  have K2 : Hid (VT w _ rb l m1 d1 n0 n1 0 0) := k2.out.1.set (i := 1) (n1 : Nat) (by rfl)
  clear e0 e1 e2 e3 f0 f1 f2 f3
  rw [rounds_succ]
  go_wp2_with (go_at_call 62; refine (H62.out _ _ _ _ _ _ _ K2.out).mono ?_; rintro e w3 ⟨n2, m2, d2, rfl, k3⟩; obtain ⟨⟨e0, e1, e2, e3⟩, f0, f1, f2, f3⟩ := four_cells k3.out.1.b1)
  have K3 : Hid (VT w _ rb l m2 d2 n0 n1 n2 0) := k3.out.1.set (i := 2) (n2 : Nat) (by rfl)
  clear e0 e1 e2 e3 f0 f1 f2 f3
  rw [rounds_succ]
  go_wp2_with (go_at_call 62; refine (H62.out _ _ _ _ _ _ _ K3.out).mono ?_; rintro e w4 ⟨n3, m3, d3, rfl, k4⟩; obtain ⟨⟨e0, e1, e2, e3⟩, f0, f1, f2, f3⟩ := four_cells k4.out.1.b1)
  have K4 : Hid (VT w _ rb l m3 d3 n0 n1 n2 n3) := k4.out.1.set (i := 3) (n3 : Nat) (by rfl)
  clear e0 e1 e2 e3 f0 f1 f2 f3
  obtain ⟨⟨e0, e1, e2, e3⟩, f0, f1, f2, f3⟩ := four_cells K4.out.b1
  obtain ⟨⟨a0, a1, a2, a3⟩, g0, g1, g2, g3⟩ := four_cells K4.out.b0
  have HO : Hid (at0 ≤ m3 ∧ ((vecD (l.drop at0) = some (⟨(n0 : Nat), (n1 : Nat), (n2 : Nat), (n3 : Nat)⟩, l.drop m3) ∧ d3 = bad) ∨ (vecD (l.drop at0) = none ∧ d3 = true))) := ⟨by have := k1.out.2.2.1; have := k2.out.2.2.1; have := k3.out.2.2.1; have := k4.out.2.2.1; omega, vec_of k1.out.2 k2.out.2 k3.out.2 k4.out.2⟩
  rw [rounds_succ]
  clear HS K1 K2 K3 k1 k2 k3 H62
  go_wp2_with fail
  have HB := Joins.block_setCell (i := 3) (Joins.block_setCell (i := 2) (Joins.block_setCell (i := 1) (Joins.block_setCell (i := 0) K4.out.b0 (.int .i64 (n0 : Nat))) (.int .i64 (n1 : Nat))) (.int .i64 (n2 : Nat))) (.int .i64 (n3 : Nat))
  have HW : Hid (Rf _ rb l m3 d3 ∧ RdK rb w _) := rf_new (i := 3) (rf_new (i := 2) (rf_new (i := 1) (rf_new (i := 0) ⟨K4.out.rd, K4.out.kp⟩ K4.out.lt (Nat.le_refl _) (.int .i64 (n0 : Nat))) K4.out.lt (Nat.le_refl _) (.int .i64 (n1 : Nat))) K4.out.lt (Nat.le_refl _) (.int .i64 (n2 : Nat))) K4.out.lt (Nat.le_refl _) (.int .i64 (n3 : Nat))
  clear a0 a1 a2 a3 g0 g1 g2 g3 e0 e1 e2 e3 f0 f1 f2 f3
  refine bodyPost_ret (back63 _ _ w.heap.size #[.int .i64 (n0 : Nat), .int .i64 (n1 : Nat), .int .i64 (n2 : Nat), .int .i64 (n3 : Nat)] rfl HB rfl) rfl ?_
  exact ⟨⟨(n0 : Nat), (n1 : Nat), (n2 : Nat), (n3 : Nat)⟩, m3, d3, rfl, HO.out.1, K4.out.le, HW.out.1, HW.out.2, HO.out.2⟩
end Go.Proofs.Ytnkkiepoljbhlaa

namespace Go.Proofs.Ytnkkiepoljbhlaa
open Go.RowKit

/-- a text, read strictly -/
def txtD (l : List UInt8) : Option (List UInt8 × List UInt8) := (numD 7 l).bind fun a => if a.1 ≤ a.2.length then some (a.2.take a.1, a.2.drop a.1) else none
/-- what Text answers -/
def RTxt (w w' : World) (rb : Nat) (l : List UInt8) (a : Nat) (bad : Bool) (s : List UInt8) (k : Nat) (bad' : Bool) : Prop :=
  a ≤ k ∧ k ≤ l.length ∧ Rf w' rb l k bad' ∧ RdK rb w w' ∧ ((txtD (l.drop a) = some (s, l.drop k) ∧ bad' = false ∧ bad = false) ∨ (bad' = true ∧ (bad = true ∨ txtD (l.drop a) = none)))
theorem Rf.at' {w : World} {rb a k : Nat} {l : List UInt8} {bad : Bool} (h : Rf w rb l a bad) {v : Value} (hv : v = .int .i64 k) : Rf (w.setCell ⟨rb, 1, none⟩ v) rb l k bad := by subst hv; exact h.at k
set_option maxHeartbeats 4000000 in
set_option maxRecDepth 100000 in
theorem rtext_any (w : World) (rb at0 : Nat) (l : List UInt8) (bad : Bool) (h : Rf w rb l at0 bad) (ha : at0 ≤ l.length) : Calls Try.prog 61 #[.pointer (some ⟨rb, 0, none⟩)] w fun e w' => ∃ (s : List UInt8) (k : Nat) (bad' : Bool), e = .returned (.string ⟨⟨s⟩⟩) ∧ Hid (RTxt w w' rb l at0 bad s k bad') := by
  have H62 : Hid (Calls Try.prog 62 #[.pointer (some ⟨rb, 0, none⟩)] w fun e w' => ∃ (m k : Nat) (bad' : Bool), e = .returned (.int .i64 m) ∧ Hid (RNum w w' rb l at0 bad m k bad')) := rnumber_any w rb at0 l bad h ha
  obtain ⟨n, hn⟩ : ∃ n, l.length = n := ⟨_, rfl⟩
  have HN : Hid (l.length = n) := hn
  have hn60 : n < 1152921504606846976 := by obtain ⟨p, c, _, hB⟩ := h; have := hB.cm; omega
  clear h hn ha
  go_enter Try.func61, Try.ntmps61
  go_upto_region 2 with (go_at_call 62; refine H62.out.mono ?_; rintro e w1 ⟨m, k, bd, rfl, h1⟩)
  clear H62
  have hm49 : m < 562949953421312 := h1.out.1
  have hkn : k ≤ n := by have := h1.out.2.2.1; rw [HN.out] at this; exact this
  have HR : Hid (Rf w1 rb l k bd) := h1.out.2.2.2.1
  obtain ⟨p, c, hb, hB⟩ := h1.out.2.2.2.1
  rw [HN.out] at hb
  have HB : Hid (Byt w1 rb p c l) := hB
  obtain ⟨⟨c0, c1, c2⟩, f0, f1, f2⟩ := three_cells hb
  have hlt : rb < w1.heap.size := HR.out.lt
  clear hb
  cases bd with
  | true =>
    have HT : Hid (bad = true ∨ txtD (l.drop at0) = none) := by
      rcases h1.out.2.2.2.2.2 with ⟨_, q⟩ | ⟨q, _⟩
      · exact .inl q.symm
      · exact .inr (by unfold txtD; rw [q]; rfl)
    clear hB
    go_quiet (fail)
    go_wp2_with fail
    go_returns
    exact ⟨[], k, true, rfl, h1.out.2.1, by rw [HN.out]; exact hkn, HR.out.drew.bad, h1.out.2.2.2.2.1.drew.set _, .inr ⟨rfl, HT.out⟩⟩
  | false =>
    obtain ⟨hD, hbad⟩ : numD 7 (l.drop at0) = some (m, l.drop k) ∧ bad = false := by
      rcases h1.out.2.2.2.2.2 with ⟨q1, q2⟩ | ⟨_, q⟩
      · exact ⟨q1, q2.symm⟩
      · cases q
    by_cases hmn : n - k < m
    · have HT : Hid (txtD (l.drop at0) = none) := by
        show _ = _
        unfold txtD
        rw [hD]
        show (if _ then _ else _) = _
        rw [if_neg]
        show ¬ m ≤ (l.drop k).length
        rw [List.length_drop, HN.out]
        omega
      have g1 : (n : Int) - (k : Int) < (m : Int) := by omega
      have g2 : decide ((n : Int) - (k : Int) < (m : Int)) = true := decide_eq_true g1
      clear hB hD
      go_quiet (fail)
      go_wp2_with fail
      go_returns
      exact ⟨[], k, true, rfl, h1.out.2.1, by rw [HN.out]; exact hkn, HR.out.drew.bad, h1.out.2.2.2.2.1.drew.set _, .inr ⟨rfl, .inr HT.out⟩⟩
    · have HT : Hid (txtD (l.drop at0) = some ((l.drop k).take m, l.drop (k + m))) := by
        show _ = _
        unfold txtD
        rw [hD]
        show (if _ then _ else _) = _
        rw [if_pos]
        · show some ((l.drop k).take m, (l.drop k).drop m) = _
          rw [List.drop_drop]
        · show m ≤ (l.drop k).length
          rw [List.length_drop, HN.out]
          omega
      have g1 : ¬ (n : Int) - (k : Int) < (m : Int) := by omega
      have g2 : decide ((n : Int) - (k : Int) < (m : Int)) = false := decide_eq_false g1
      have hkc : k ≤ c := by have := hB.cm; have := HN.out; omega
      have hkm : k + m ≤ c := by have := hB.cm; have := HN.out; omega
      have h3 : (k : Int) + (m : Int) ≤ (c : Int) := by omega
      have h4 : (k : Int) ≤ (k : Int) + (m : Int) := by omega
      have HE : Hid (∀ q v, v = .int .i64 ((k + m : Nat) : Int) → RTxt w ((w1.drewN q).setCell ⟨rb, 1, none⟩ v) rb l at0 bad ((l.drop k).take m) (k + m) false) := fun q v hv => ⟨by have := h1.out.2.1; omega, by rw [HN.out]; omega, HR.out.drew.at' hv, h1.out.2.2.2.2.1.drew.set _, .inl ⟨HT.out, rfl, hbad⟩⟩
      cases p with
      | none =>
        have hc0 : c = 0 := hB.nc rfl
        obtain rfl : m = 0 := by omega
        obtain rfl : k = 0 := by omega
        have hn0 : n = 0 := by have := hB.cm; have := HN.out; omega
        subst hc0 hn0
        have hcv : ∀ q, (convert 38 9 (.slice none 0 0)).run Try.prog (w1.drewN q) = .ok (.string ⟨#[]⟩) (w1.drewN q) := fun q => conv_nil _ 0
        have hcv0 := conv_nil w1 0
        clear hB hD g1 h3 h4 hkm hkc hmn
        go_quiet (fail)
        go_wp2_with fail
        go_quiet (fail)
        go_wp2_with fail
        go_returns
        exact ⟨_, _, _, rfl, HE.out _ _ rfl⟩
      | some a =>
        have hsp := (hB.bl a rfl).2
        obtain ⟨g, o, sp⟩ := a
        simp only at hsp
        subst hsp
        obtain ⟨p', hp⟩ : ∃ p', p' = if c = k then some (⟨g, o, none⟩ : Addr) else some ⟨g, o + k, none⟩ := ⟨_, rfl⟩
        have hcut := byt_cut hB (by rw [HN.out]; exact hkn) hp
        have hcv0 := conv_byt hcut (n := m) (by rw [List.length_drop, HN.out]; omega)
        have hcv : ∀ q, (convert 38 9 (.slice p' m (c - k))).run Try.prog (w1.drewN q) = .ok (.string ⟨⟨(l.drop k).take m⟩⟩) (w1.drewN q) := fun q => conv_byt (w := w1.drewN q) (rb := rb) ⟨hcut.ly, hcut.nc, hcut.bl, hcut.cm⟩ (by rw [List.length_drop, HN.out]; omega)
        clear hB hD hcut
        by_cases hci : c = k
        · rw [if_pos hci] at hp
          obtain rfl : m = 0 := by omega
          subst hp hci
          rw [Nat.sub_self] at hcv hcv0
          clear h3 h4 hkm hkc hmn
          go_quiet (fail)
          go_wp2_with fail
          go_quiet (fail)
          go_wp2_with fail
          go_returns
          exact ⟨_, _, _, rfl, HE.out _ _ (by first | rfl | (congr 1; omega))⟩
        · rw [if_neg hci] at hp
          subst hp
          go_quiet (fail)
          go_wp2_with fail
          go_quiet (fail)
          go_wp2_with fail
          go_returns
          exact ⟨_, _, _, rfl, HE.out _ _ (by first | rfl | (congr 1; omega))⟩
end Go.Proofs.Ytnkkiepoljbhlaa
