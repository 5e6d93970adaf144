/-
  Numbers read from bytes; a reader as it lies. The program's reader: fail, number. The program's reader: number in whole, upTo, kind, vectors.
-/
import Derived.Test.YtnkkiepoljbhlaaNum
import Derived.Lib.SmallJoins
import Derived.Laws.BitsAllLaws
import Derived.Laws.IdiomStrings
import Derived.Lib.BufferRead
namespace Go.Proofs.Ytnkkiepoljbhlaa
open Go.RowKit

/-- a number's bytes read, of at most lim -/
def numA (lim : Nat) : Nat → Nat → List UInt8 → Option (Nat × List UInt8)
  | _, _, [] => none
  | i, n, b :: r => if lim ≤ i then none else if 128 ≤ b.toNat then numA lim (i + 1) (n + b.toNat % 128 * 128 ^ i) r else if b.toNat = 0 ∧ 0 < i then none else some (n + b.toNat % 128 * 128 ^ i, r)
def numD (lim : Nat) (l : List UInt8) : Option (Nat × List UInt8) := numA lim 0 0 l
theorem acc_lt {i n x : Nat} (hn : n < 128 ^ i) : n + x % 128 * 128 ^ i < 128 ^ (i + 1) := by
  have h1 : x % 128 ≤ 127 := by omega
  have h2 := Nat.mul_le_mul_right (128 ^ i) h1
  rw [Nat.pow_succ]
  omega
theorem numA_lt {lim : Nat} : ∀ {l : List UInt8} {i n m : Nat} {r : List UInt8}, n < 128 ^ i → numA lim i n l = some (m, r) → m < 128 ^ lim
  | [], i, n, m, r, _, h => by cases h
  | b :: t, i, n, m, r, hn, h => by
    unfold numA at h
    by_cases h1 : lim ≤ i
    · rw [if_pos h1] at h; cases h
    · rw [if_neg h1] at h
      have ha := acc_lt (x := b.toNat) hn
      by_cases h2 : 128 ≤ b.toNat
      · rw [if_pos h2] at h; exact numA_lt ha h
      · rw [if_neg h2] at h
        by_cases h3 : b.toNat = 0 ∧ 0 < i
        · rw [if_pos h3] at h; cases h
        · rw [if_neg h3] at h
          cases h
          exact Nat.lt_of_lt_of_le ha (Nat.pow_le_pow_right (by decide) (by omega))
/-- what is read within a limit is read within a greater one -/
theorem numA_more {lim lim' : Nat} (hl : lim ≤ lim') : ∀ {l : List UInt8} {i n : Nat} {x : Nat × List UInt8}, numA lim i n l = some x → numA lim' i n l = some x
  | [], i, n, x, h => by cases h
  | b :: t, i, n, x, h => by
    unfold numA at h ⊢
    by_cases h1 : lim ≤ i
    · rw [if_pos h1] at h; cases h
    · rw [if_neg h1] at h
      rw [if_neg (by omega)]
      by_cases h2 : 128 ≤ b.toNat
      · rw [if_pos h2] at h ⊢; exact numA_more hl h
      · rw [if_neg h2] at h ⊢; exact h
/-- what is read within the greater limit alone is great -/
theorem numA_big {lim lim' : Nat} : ∀ {l : List UInt8} {i n : Nat} {m : Nat} {r : List UInt8}, 0 < lim → numA lim i n l = none → numA lim' i n l = some (m, r) → 128 ^ lim ≤ m
  | [], i, n, m, r, _, _, h => by cases h
  | b :: t, i, n, m, r, h0, hn, h => by
    unfold numA at h hn
    by_cases h9 : lim' ≤ i
    · rw [if_pos h9] at h; cases h
    · rw [if_neg h9] at h
      by_cases h2 : 128 ≤ b.toNat
      · rw [if_pos h2] at h
        by_cases h1 : lim ≤ i
        · exact numA_big h0 (l := t) (i := i + 1) (by
            cases t with
            | nil => rfl
            | cons c t => unfold numA; rw [if_pos (by omega)]) h
        · rw [if_neg h1, if_pos h2] at hn
          exact numA_big h0 hn h
      · rw [if_neg h2] at h
        by_cases h3 : b.toNat = 0 ∧ 0 < i
        · rw [if_pos h3] at h; cases h
        · rw [if_neg h3] at h
          by_cases h1 : lim ≤ i
          · cases h
            have hb : 1 ≤ b.toNat % 128 := by
              have : b.toNat ≠ 0 := fun e => h3 ⟨e, by omega⟩
              omega
            have h4 : 128 ^ lim ≤ 128 ^ i := Nat.pow_le_pow_right (by decide) h1
            have h5 := Nat.mul_le_mul_right (128 ^ i) hb
            omega
          · rw [if_neg h1, if_neg h2, if_neg h3] at hn; cases hn
theorem numD_more {l : List UInt8} {x : Nat × List UInt8} (h : numD 7 l = some x) : numD 9 l = some x := numA_more (by decide) h
theorem numD_big {l : List UInt8} {m : Nat} {r : List UInt8} (h : numD 7 l = none) (h' : numD 9 l = some (m, r)) : 562949953421312 ≤ m := numA_big (lim := 7) (by decide) h h'
theorem numA_rest {lim : Nat} : ∀ {l : List UInt8} {i n m : Nat} {r : List UInt8}, numA lim i n l = some (m, r) → ∃ k, 0 < k ∧ k ≤ l.length ∧ r = l.drop k
  | [], i, n, m, r, h => by cases h
  | b :: t, i, n, m, r, h => by
    unfold numA at h
    by_cases h1 : lim ≤ i
    · rw [if_pos h1] at h; cases h
    · rw [if_neg h1] at h
      by_cases h2 : 128 ≤ b.toNat
      · rw [if_pos h2] at h
        obtain ⟨k, h3, h4, h5⟩ := numA_rest h
        exact ⟨k + 1, by omega, by simpa using h4, h5⟩
      · rw [if_neg h2] at h
        by_cases h3 : b.toNat = 0 ∧ 0 < i
        · rw [if_pos h3] at h; cases h
        · rw [if_neg h3] at h
          cases h
          exact ⟨1, by decide, by simp, rfl⟩
/-! ### a reader -/
/-- only one block changes -/
structure RdK (rb : Nat) (w w' : World) : Prop where
  os : w'.os = w.os
  tape : w'.tape = w.tape
  output : w'.output = w.output
  size : w.heap.size ≤ w'.heap.size
  block : ∀ k, k < w.heap.size → k ≠ rb → w'.heap[k]? = w.heap[k]?
theorem RdK.refl (rb : Nat) (w : World) : RdK rb w w := ⟨rfl, rfl, rfl, Nat.le_refl _, fun _ _ _ => rfl⟩
theorem RdK.trans {rb : Nat} {a b c : World} (h : RdK rb a b) (k : RdK rb b c) : RdK rb a c := ⟨k.os.trans h.os, k.tape.trans h.tape, k.output.trans h.output, Nat.le_trans h.size k.size, fun i hi hn => (k.block i (Nat.lt_of_lt_of_le hi h.size) hn).trans (h.block i hi hn)⟩
theorem RdK.of_below {rb : Nat} {a b : World} (h : Below a.heap.size a b) : RdK rb a b := ⟨h.os, h.tape, h.output, h.size, fun k hk _ => h.block k hk⟩
theorem RdK.set {rb i : Nat} {a w : World} (h : RdK rb a w) (v : Value) : RdK rb a (w.setCell ⟨rb, i, none⟩ v) := h.trans ⟨rfl, rfl, rfl, by simp [World.setCell], fun k _ hn => Below.heap_setCell _ _ _ _ (fun e => hn e)⟩
theorem RdK.below {rb B : Nat} {a b : World} (h : RdK rb a b) (hB : B ≤ a.heap.size) (hr : B ≤ rb) : Below B a b := ⟨h.os, h.tape, h.output, h.size, fun k hk => h.block k (Nat.lt_of_lt_of_le hk hB) (by omega)⟩
/-- where bytes lie, below a block -/
structure Byt (w : World) (rb : Nat) (p : Option Addr) (c : Nat) (l : List UInt8) : Prop where
  ly : Lies w p l
  nc : p = none → c = 0
  bl : ∀ a, p = some a → a.block < rb ∧ a.spot = none
  cm : l.length ≤ c ∧ l.length < 1152921504606846976
theorem Byt.keep {w w1 : World} {rb c : Nat} {p : Option Addr} {l : List UInt8} (h : Byt w rb p c l) (k : RdK rb w w1) (hr : rb < w.heap.size) : Byt w1 rb p c l := by
  refine ⟨?_, h.nc, h.bl, h.cm⟩
  rcases h.ly with e | ⟨g, o, rfl, hrow⟩
  · exact .inl e
  · refine .inr ⟨g, o, rfl, fun i x hx => ?_⟩
    have := h.bl _ rfl
    have hb : w1.heap[g]? = w.heap[g]? := k.block g (by have := this.1; simp only at this; omega) (by have := this.1; simp only at this; omega)
    have h1 := hrow i x hx
    unfold World.cell? at h1 ⊢
    rw [hb]
    exact h1
/-- a reader that has these bytes left, or none as it is bad -/
def Rd (w : World) (rb : Nat) : Option (List UInt8) → Prop
  | some l => ∃ p c, w.heap[rb]? = some (.cells #[.slice p l.length c, .bool false] 89 (0, 0)) ∧ Byt w rb p c l
  | none => w.heap[rb]? = some (.cells #[.slice none 0 0, .bool true] 89 (0, 0))
theorem Rd.lt {w : World} {rb : Nat} {st : Option (List UInt8)} (h : Rd w rb st) : rb < w.heap.size := by
  cases st with
  | none => exact (Array.getElem?_eq_some_iff.1 h).1
  | some l => obtain ⟨p, c, h1, _⟩ := h; exact (Array.getElem?_eq_some_iff.1 h1).1
theorem Rd.below {w w1 : World} {rb : Nat} {st : Option (List UInt8)} (h : Rd w rb st) (b : Below w.heap.size w w1) : Rd w1 rb st := by
  have hl := h.lt
  cases st with
  | none => exact (b.block rb hl).trans h
  | some l =>
    obtain ⟨p, c, h1, h2⟩ := h
    exact ⟨p, c, (b.block rb hl).trans h1, h2.keep (RdK.of_below b) hl⟩
/-- what the program's reader answers -/
def pNum : Option (List UInt8) → Nat × Option (List UInt8)
  | none => (0, none)
  | some l => match numD 9 l with
    | none => (0, none)
    | some (n, r) => (n, some r)
end Go.Proofs.Ytnkkiepoljbhlaa

namespace Go.Proofs.Ytnkkiepoljbhlaa
open Go.RowKit

theorem rd_cells {w : World} {g : Nat} {a b : Value} {t : TypeId} (h : w.heap[g]? = some (.cells #[a, b] t (0, 0))) : w.cell? ⟨g, 0, none⟩ = some a ∧ w.cell? ⟨g, 1, none⟩ = some b ∧ w.frozen? ⟨g, 0, none⟩ = false ∧ w.frozen? ⟨g, 1, none⟩ = false := by
  unfold World.cell? World.frozen?
  rw [h]
  simp
theorem rd_set0 {w : World} {g : Nat} {a b v : Value} {t : TypeId} (h : w.heap[g]? = some (.cells #[a, b] t (0, 0))) : (w.setCell ⟨g, 0, none⟩ v).heap[g]? = some (.cells #[v, b] t (0, 0)) := Joins.block_setCell h v
theorem rd_set1 {w : World} {g : Nat} {a b v : Value} {t : TypeId} (h : w.heap[g]? = some (.cells #[a, b] t (0, 0))) : (w.setCell ⟨g, 1, none⟩ v).heap[g]? = some (.cells #[a, v] t (0, 0)) := Joins.block_setCell h v
set_option maxHeartbeats 400000 in
theorem fail_any (w : World) (rb : Nat) (st : Option (List UInt8)) (h : Rd w rb st) : Calls Try.prog 72 #[.pointer (some ⟨rb, 0, none⟩)] w fun e w' => e = .returned (.tuple #[]) ∧ Hid (Rd w' rb none ∧ RdK rb w w') := by
  obtain ⟨a, b, hb⟩ : ∃ a b, w.heap[rb]? = some (.cells #[a, b] 89 (0, 0)) := by
    cases st with
    | none => exact ⟨_, _, h⟩
    | some l => obtain ⟨p, c, h1, _⟩ := h; exact ⟨_, _, h1⟩
  have hl := h.lt
  obtain ⟨c0, c1, f0, f1⟩ := rd_cells hb
  have HF : Hid (Rd ((w.setCell ⟨rb, 0, none⟩ (.slice none 0 0)).setCell ⟨rb, 1, none⟩ (.bool true)) rb none ∧ RdK rb w ((w.setCell ⟨rb, 0, none⟩ (.slice none 0 0)).setCell ⟨rb, 1, none⟩ (.bool true))) := ⟨rd_set1 (rd_set0 hb), ((RdK.refl rb w).set _).set _⟩
  clear h hb
  go_enter Try.func72, Try.ntmps72
  go_wp2_with fail
  go_end0
  exact ⟨rfl, HF.out⟩
set_option maxHeartbeats 2000000 in
set_option maxRecDepth 100000 in
theorem number_none (w : World) (rb : Nat) (h : Rd w rb none) : Calls Try.prog 56 #[.pointer (some ⟨rb, 0, none⟩)] w fun e w' => e = .returned (.int .i64 0) ∧ Hid (Rd w' rb none ∧ RdK rb w w') := by
  have H72 : Hid (∀ W, Rd W rb none → Calls Try.prog 72 #[.pointer (some ⟨rb, 0, none⟩)] W fun e w' => e = .returned (.tuple #[]) ∧ Hid (Rd w' rb none ∧ RdK rb W w')) := fun W h => fail_any W rb none h
  have hl := h.lt
  have HR : Hid (Rd w rb none) := h
  obtain ⟨c0, c1, f0, f1⟩ := rd_cells h
  clear h
  go_enter Try.func56, Try.ntmps56
  go_wp2_with fail
  refine wp_loop_rounds 1 ?_
  rw [rounds_succ]
  go_wp2_with (go_at_call 72; refine (H72.out _ HR.out).mono ?_; rintro e w1 ⟨rfl, h1⟩)
  go_ret
  exact ⟨rfl, h1.out⟩
theorem wrap63n (n : Nat) (h : n < 9223372036854775808) : IntKind.i64.wrap (n : Int) = n := by
  simp [IntKind.wrap, IntKind.bits, IntKind.signed]; omega
theorem i64_or_nat (a b : Nat) (ha : a < 9223372036854775808) (hb : b < 9223372036854775808) : bits .or .i64 (a : Int) (b : Int) = ((a ||| b : Nat) : Int) := by
  have hx : a ||| b < 2 ^ 63 := Nat.or_lt_two_pow (by omega) (by omega)
  show IntKind.i64.wrap ((BitVec.ofInt 64 (a : Int) ||| BitVec.ofInt 64 (b : Int)).toNat : Int) = _
  rw [BitVec.toNat_or, ofInt_u64 a (by omega), ofInt_u64 b (by omega)]
  exact wrap63n _ (by omega)
theorem wr64 {n : Nat} (h : n < 9223372036854775808) : wrap64 (n : Int) = n := by unfold wrap64; omega
/-- one more byte of a number -/
theorem acc_eq {i n : Nat} (b : UInt8) (hn : n < 128 ^ i) (hi : i ≤ 8) : bits .or .i64 (n : Int) (wrap64 (wrap64 (bits .and .u8 (b.toNat : Int) 127) * 2 ^ (7 * i))) = ((n + b.toNat % 128 * 128 ^ i : Nat) : Int) := by
  have hb := b.toNat_lt
  have h1 : bits .and .u8 (b.toNat : Int) 127 = ((b.toNat % 128 : Nat) : Int) := by
    rw [show (127 : Int) = ((127 : Nat) : Int) from rfl, u8_and_nat b.toNat 127 (by omega) (by decide)]
    congr 1
    exact Nat.and_two_pow_sub_one_eq_mod b.toNat 7
  have hp : (128 : Nat) ^ i = 2 ^ (7 * i) := by rw [Nat.pow_mul]
  have h2 := acc_lt (x := b.toNat) hn
  have h3 : 128 ^ (i + 1) ≤ 128 ^ 9 := Nat.pow_le_pow_right (by decide) (by omega)
  have h4 : (128 : Nat) ^ 9 = 9223372036854775808 := by decide
  rw [h1, wr64 (by omega), show ((b.toNat % 128 : Nat) : Int) * 2 ^ (7 * i) = ((b.toNat % 128 * 128 ^ i : Nat) : Int) by rw [hp]; simp, wr64 (by omega), i64_or_nat _ _ (by omega) (by omega)]
  congr 1
  rw [hp]
  exact join (k := 7 * i) _ (by rw [← hp]; exact hn)
theorem numA_step {l : List UInt8} {i m : Nat} {b : UInt8} (hb : l[i]? = some b) : numA 9 i m (l.drop i) = if 9 ≤ i then none else if 128 ≤ b.toNat then numA 9 (i + 1) (m + b.toNat % 128 * 128 ^ i) (l.drop (i + 1)) else if b.toNat = 0 ∧ 0 < i then none else some (m + b.toNat % 128 * 128 ^ i, l.drop (i + 1)) := by
  obtain ⟨h1, h2⟩ := List.getElem?_eq_some_iff.1 hb
  rw [List.drop_eq_getElem_cons h1, h2]
  rfl
theorem pNum_some {l : List UInt8} {n : Nat} {r : List UInt8} (h : numA 9 0 0 l = some (n, r)) : pNum (some l) = (n, some r) := by
  show (match numA 9 0 0 l with | none => (0, none) | some (n, r) => (n, some r)) = _
  rw [h]
theorem pNum_none {l : List UInt8} (h : numA 9 0 0 l = none) : pNum (some l) = (0, none) := by
  show (match numA 9 0 0 l with | none => (0, none) | some (n, r) => (n, some r)) = _
  rw [h]
/-- what is left behind so many bytes -/
theorem byt_cut {w : World} {rb c g o k : Nat} {l : List UInt8} {p' : Option Addr} (h : Byt w rb (some ⟨g, o, none⟩) c l) (hk : k ≤ l.length) (hp : p' = if c = k then some ⟨g, o, none⟩ else some ⟨g, o + k, none⟩) : Byt w rb p' (c - k) (l.drop k) := by
  have hb := h.bl _ rfl
  have hc := h.cm
  refine ⟨?_, fun e => ?_, fun a e => ?_, by rw [List.length_drop]; omega⟩
  · by_cases hck : c = k
    · refine .inl (List.drop_eq_nil_of_le (by omega))
    · rw [if_neg hck] at hp
      subst hp
      rcases h.ly with e | ⟨g', o', e, hrow⟩
      · rw [e]; exact .inl (List.drop_nil)
      · cases e
        refine .inr ⟨g, o + k, rfl, fun i x hx => ?_⟩
        rw [List.getElem?_drop] at hx
        have := hrow (k + i) x hx
        rwa [← Nat.add_assoc] at this
  · rw [e] at hp; split at hp <;> cases hp
  · rw [hp] at e
    split at e
    · cases e; exact hb
    · cases e; exact ⟨hb.1, rfl⟩
set_option maxHeartbeats 4000000 in
set_option maxRecDepth 100000 in
theorem number_some (w : World) (rb : Nat) (l : List UInt8) (h : Rd w rb (some l)) : Calls Try.prog 56 #[.pointer (some ⟨rb, 0, none⟩)] w fun e w' => e = .returned (.int .i64 ((pNum (some l)).1 : Nat)) ∧ Hid (Rd w' rb (pNum (some l)).2 ∧ RdK rb w w') := by
  have H72 : Hid (∀ W l, Rd W rb (some l) → Calls Try.prog 72 #[.pointer (some ⟨rb, 0, none⟩)] W fun e w' => e = .returned (.tuple #[]) ∧ Hid (Rd w' rb none ∧ RdK rb W w')) := fun W l h => fail_any W rb (some l) h
  have hl := h.lt
  have HR : Hid (Rd w rb (some l)) := h
  obtain ⟨p, c, hb, hB⟩ := h
  obtain ⟨c0, c1, f0, f1⟩ := rd_cells hb
  have HB : Hid (w.heap[rb]? = some (.cells #[.slice p l.length c, .bool false] 89 (0, 0)) ∧ Byt w rb p c l) := ⟨hb, hB⟩
  obtain ⟨n, hn⟩ : ∃ n, l.length = n := ⟨_, rfl⟩
  have HN : Hid (l.length = n) := hn
  have hn60 : n < 1152921504606846976 := by have := hB.cm; omega
  rw [hn] at c0
  clear hb hB hn
  have hcase : n ≤ 9 ∨ 9 < n := by omega
  rcases hcase with hc | hc
  · go_enter Try.func56, Try.ntmps56
    go_wp2_with fail
    go_loopw [3, 12] (fun x y wr => ∃ (i m : Nat), x = .int .i64 m ∧ y = .int .i64 i ∧ i ≤ n ∧ Hid ((m < 128 ^ i ∧ numA 9 0 0 l = numA 9 i m (l.drop i)) ∧ wr = w)) (fun _ y _ => n - (intOf y).toNat)
    case atStart => exact ⟨0, 0, rfl, rfl, Nat.zero_le _, ⟨by decide, rfl⟩, rfl⟩
    case round =>
      obtain ⟨i, m, rfl, rfl, hi, HI0⟩ := hrel
      obtain rfl := HI0.out.2
      have HI : Hid (m < 128 ^ i ∧ numA 9 0 0 l = numA 9 i m (l.drop i)) := HI0.out.1
      clear HI0
      by_cases h0 : i = n
      · subst h0
        have HS2 : Hid (pNum (some l) = (0, none)) := by
          refine pNum_none (HI.out.2.trans ?_)
          rw [List.drop_eq_nil_of_le (Nat.le_of_eq HN.out)]; rfl
        clear HI
        go_wp2_with (go_at_call 72; refine (H72.out _ _ HR.out).mono ?_; rintro e w1 ⟨rfl, h1⟩)
        go_ret
        exact ⟨by rw [HS2.out]; rfl, by rw [HS2.out]; exact h1.out⟩
      · have hik : (i : Int) < ((n : Nat) : Int) := by omega
        have hin : (i : Int) < (n : Int) := by omega
        obtain ⟨b, hbb⟩ : ∃ b, l[i]? = some b := ⟨l[i]'(by have := HN.out; omega), List.getElem?_eq_getElem _⟩
        obtain ⟨g, o, rfl, hrow⟩ : ∃ g o, p = some ⟨g, o, none⟩ ∧ Row wr g o l := by
          rcases HB.out.2.ly with e | h
          · rw [e] at hbb; cases hbb
          · exact h
        have d0 := hrow i b hbb
        have hu := u8_bd b
        have hi8 : i ≤ 8 := by omega
        have hacc := acc_eq b HI.out.1 hi8
        have HS : Hid (m + b.toNat % 128 * 128 ^ i < 128 ^ (i + 1) ∧ numA 9 0 0 l = if 9 ≤ i then none else if 128 ≤ b.toNat then numA 9 (i + 1) (m + b.toNat % 128 * 128 ^ i) (l.drop (i + 1)) else if b.toNat = 0 ∧ 0 < i then none else some (m + b.toNat % 128 * 128 ^ i, l.drop (i + 1))) := ⟨acc_lt HI.out.1, HI.out.2.trans (numA_step hbb)⟩
        generalize m + b.toNat % 128 * 128 ^ i = m2 at *
        by_cases h2 : 128 ≤ b.toNat
        · have g1 : (127 : Int) < (b.toNat : Int) := by omega
          have g2 : decide ((127 : Int) < (b.toNat : Int)) = true := decide_eq_true g1
          have HS2 : Hid (m2 < 128 ^ (i + 1) ∧ numA 9 0 0 l = numA 9 (i + 1) m2 (l.drop (i + 1))) := by
            have := HS.out
            rw [if_neg (by omega), if_pos h2] at this
            exact this
          clear HS h2 hbb HI
          go_wp2_with fail
          exact ⟨⟨i + 1, m2, rfl, by simp, by omega, HS2.out, trivial⟩, by simp only [intOf]; omega⟩
        · have g1 : ¬ (127 : Int) < (b.toNat : Int) := by omega
          have g2 : decide ((127 : Int) < (b.toNat : Int)) = false := decide_eq_false g1
          by_cases h3 : b.toNat = 0 ∧ 0 < i
          · have HS2 : Hid (pNum (some l) = (0, none)) := by
              have := HS.out.2
              rw [if_neg (by omega), if_neg h2, if_pos h3] at this
              exact pNum_none this
            have g3 : (b.toNat : Int) = 0 := by omega
            have g4 : (0 : Int) < (i : Int) := by omega
            have g5 : decide ((0 : Int) < (i : Int)) = true := decide_eq_true g4
            have g6 : ((b.toNat : Int) == 0) = true := by rw [g3]; rfl
            clear HS h2 h3 hbb HI g3
            go_wp2_with (go_at_call 72; refine (H72.out _ _ HR.out).mono ?_; rintro e w1 ⟨rfl, h1⟩)
            go_ret
            exact ⟨by rw [HS2.out]; rfl, by rw [HS2.out]; exact h1.out⟩
          · have HS2 : Hid (pNum (some l) = (m2, some (l.drop (i + 1)))) := by
              have := HS.out.2
              rw [if_neg (by omega), if_neg h2, if_neg h3] at this
              exact pNum_some this
            have hc1 : i + 1 ≤ c := by have := HB.out.2.cm; have := HN.out; omega
            have hc2 : (i : Int) + 1 ≤ (c : Int) := by omega
            have hin2 : (i : Int) + 1 ≤ (n : Int) := by omega
            have h5 : ((b.toNat : Int) == 0) = true → ¬ (0 : Int) < (i : Int) := fun e => by
              have : (b.toNat : Int) = 0 := by simpa using e
              omega
            have HP : Hid (∀ p', (p' = if c = i + 1 then some ⟨g, o, none⟩ else some ⟨g, o + (i + 1), none⟩) → Rd (wr.setCell ⟨rb, 0, none⟩ (.slice p' (n - (i + 1)) (c - (i + 1)))) rb (some (l.drop (i + 1))) ∧ RdK rb wr (wr.setCell ⟨rb, 0, none⟩ (.slice p' (n - (i + 1)) (c - (i + 1))))) := fun p' hp => by
              refine ⟨⟨p', c - (i + 1), ?_, (byt_cut HB.out.2 (by have := HN.out; omega) hp).keep ((RdK.refl rb wr).set _) hl⟩, (RdK.refl rb wr).set _⟩
              rw [List.length_drop, HN.out]
              exact rd_set0 HB.out.1
            clear HS h2 hbb HI
            by_cases b0 : b.toNat = 0
            · have g6 : ((b.toNat : Int) == 0) = true := by simp [b0]
              have g7 := h5 g6
              have g8 : decide ((0 : Int) < (i : Int)) = false := decide_eq_false g7
              have g9 : ¬ 0 < i := by omega
              have g10 : decide (0 < i) = false := decide_eq_false g9
              clear h5 h3 b0
              by_cases hci : c = i + 1
              · have HX : Hid (Rd (wr.setCell ⟨rb, 0, none⟩ (.slice (some ⟨g, o, none⟩) (n - (i + 1)) 0)) rb (some (l.drop (i + 1))) ∧ RdK rb wr (wr.setCell ⟨rb, 0, none⟩ (.slice (some ⟨g, o, none⟩) (n - (i + 1)) 0))) := by
                  have := HP.out (some ⟨g, o, none⟩) (by rw [if_pos hci])
                  rw [show c - (i + 1) = 0 by omega] at this
                  exact this
                clear HP
                go_wp2_with fail
                go_ret
                exact ⟨by rw [HS2.out]; rfl, by rw [HS2.out]; exact HX.out⟩
              · have HX : Hid (Rd (wr.setCell ⟨rb, 0, none⟩ (.slice (some ⟨g, o + (i + 1), none⟩) (n - (i + 1)) (c - (i + 1)))) rb (some (l.drop (i + 1))) ∧ RdK rb wr (wr.setCell ⟨rb, 0, none⟩ (.slice (some ⟨g, o + (i + 1), none⟩) (n - (i + 1)) (c - (i + 1))))) := HP.out _ (by rw [if_neg hci])
                clear HP
                go_wp2_with fail
                go_ret
                exact ⟨by rw [HS2.out]; rfl, by rw [HS2.out]; exact HX.out⟩
            · have g6 : ((b.toNat : Int) == 0) = false := by rw [beq_eq_false_iff_ne]; omega
              clear h5 h3 b0
              by_cases hci : c = i + 1
              · have HX : Hid (Rd (wr.setCell ⟨rb, 0, none⟩ (.slice (some ⟨g, o, none⟩) (n - (i + 1)) 0)) rb (some (l.drop (i + 1))) ∧ RdK rb wr (wr.setCell ⟨rb, 0, none⟩ (.slice (some ⟨g, o, none⟩) (n - (i + 1)) 0))) := by
                  have := HP.out (some ⟨g, o, none⟩) (by rw [if_pos hci])
                  rw [show c - (i + 1) = 0 by omega] at this
                  exact this
                clear HP
                go_wp2_with fail
                go_ret
                exact ⟨by rw [HS2.out]; rfl, by rw [HS2.out]; exact HX.out⟩
              · have HX : Hid (Rd (wr.setCell ⟨rb, 0, none⟩ (.slice (some ⟨g, o + (i + 1), none⟩) (n - (i + 1)) (c - (i + 1)))) rb (some (l.drop (i + 1))) ∧ RdK rb wr (wr.setCell ⟨rb, 0, none⟩ (.slice (some ⟨g, o + (i + 1), none⟩) (n - (i + 1)) (c - (i + 1))))) := HP.out _ (by rw [if_neg hci])
                clear HP
                go_wp2_with fail
                go_ret
                exact ⟨by rw [HS2.out]; rfl, by rw [HS2.out]; exact HX.out⟩
  · go_enter Try.func56, Try.ntmps56
    go_wp2_with fail
    go_loopw [3, 12] (fun x y wr => ∃ (i m : Nat), x = .int .i64 m ∧ y = .int .i64 i ∧ i ≤ 9 ∧ Hid ((m < 128 ^ i ∧ numA 9 0 0 l = numA 9 i m (l.drop i)) ∧ wr = w)) (fun _ y _ => 9 - (intOf y).toNat)
    case atStart => exact ⟨0, 0, rfl, rfl, Nat.zero_le _, ⟨by decide, rfl⟩, rfl⟩
    case round =>
      obtain ⟨i, m, rfl, rfl, hi, HI0⟩ := hrel
      obtain rfl := HI0.out.2
      have HI : Hid (m < 128 ^ i ∧ numA 9 0 0 l = numA 9 i m (l.drop i)) := HI0.out.1
      clear HI0
      by_cases h0 : i = 9
      · subst h0
        have HS2 : Hid (pNum (some l) = (0, none)) := by
          refine pNum_none (HI.out.2.trans ?_)
          cases l.drop 9 with
          | nil => rfl
          | cons b r => rfl
        clear HI
        go_wp2_with (go_at_call 72; refine (H72.out _ _ HR.out).mono ?_; rintro e w1 ⟨rfl, h1⟩)
        go_ret
        exact ⟨by rw [HS2.out]; rfl, by rw [HS2.out]; exact h1.out⟩
      · have hik : (i : Int) < ((9 : Nat) : Int) := by omega
        have hin : (i : Int) < (n : Int) := by omega
        obtain ⟨b, hbb⟩ : ∃ b, l[i]? = some b := ⟨l[i]'(by have := HN.out; omega), List.getElem?_eq_getElem _⟩
        obtain ⟨g, o, rfl, hrow⟩ : ∃ g o, p = some ⟨g, o, none⟩ ∧ Row wr g o l := by
          rcases HB.out.2.ly with e | h
          · rw [e] at hbb; cases hbb
          · exact h
        have d0 := hrow i b hbb
        have hu := u8_bd b
        have hi8 : i ≤ 8 := by omega
        have hacc := acc_eq b HI.out.1 hi8
        have HS : Hid (m + b.toNat % 128 * 128 ^ i < 128 ^ (i + 1) ∧ numA 9 0 0 l = if 9 ≤ i then none else if 128 ≤ b.toNat then numA 9 (i + 1) (m + b.toNat % 128 * 128 ^ i) (l.drop (i + 1)) else if b.toNat = 0 ∧ 0 < i then none else some (m + b.toNat % 128 * 128 ^ i, l.drop (i + 1))) := ⟨acc_lt HI.out.1, HI.out.2.trans (numA_step hbb)⟩
        generalize m + b.toNat % 128 * 128 ^ i = m2 at *
        by_cases h2 : 128 ≤ b.toNat
        · have g1 : (127 : Int) < (b.toNat : Int) := by omega
          have g2 : decide ((127 : Int) < (b.toNat : Int)) = true := decide_eq_true g1
          have HS2 : Hid (m2 < 128 ^ (i + 1) ∧ numA 9 0 0 l = numA 9 (i + 1) m2 (l.drop (i + 1))) := by
            have := HS.out
            rw [if_neg (by omega), if_pos h2] at this
            exact this
          clear HS h2 hbb HI
          go_wp2_with fail
          exact ⟨⟨i + 1, m2, rfl, by simp, by omega, HS2.out, trivial⟩, by simp only [intOf]; omega⟩
        · have g1 : ¬ (127 : Int) < (b.toNat : Int) := by omega
          have g2 : decide ((127 : Int) < (b.toNat : Int)) = false := decide_eq_false g1
          by_cases h3 : b.toNat = 0 ∧ 0 < i
          · have HS2 : Hid (pNum (some l) = (0, none)) := by
              have := HS.out.2
              rw [if_neg (by omega), if_neg h2, if_pos h3] at this
              exact pNum_none this
            have g3 : (b.toNat : Int) = 0 := by omega
            have g4 : (0 : Int) < (i : Int) := by omega
            have g5 : decide ((0 : Int) < (i : Int)) = true := decide_eq_true g4
            have g6 : ((b.toNat : Int) == 0) = true := by rw [g3]; rfl
            clear HS h2 h3 hbb HI g3
            go_wp2_with (go_at_call 72; refine (H72.out _ _ HR.out).mono ?_; rintro e w1 ⟨rfl, h1⟩)
            go_ret
            exact ⟨by rw [HS2.out]; rfl, by rw [HS2.out]; exact h1.out⟩
          · have HS2 : Hid (pNum (some l) = (m2, some (l.drop (i + 1)))) := by
              have := HS.out.2
              rw [if_neg (by omega), if_neg h2, if_neg h3] at this
              exact pNum_some this
            have hc1 : i + 1 ≤ c := by have := HB.out.2.cm; have := HN.out; omega
            have hc2 : (i : Int) + 1 ≤ (c : Int) := by omega
            have hin2 : (i : Int) + 1 ≤ (n : Int) := by omega
            have h5 : ((b.toNat : Int) == 0) = true → ¬ (0 : Int) < (i : Int) := fun e => by
              have : (b.toNat : Int) = 0 := by simpa using e
              omega
            have HP : Hid (∀ p', (p' = if c = i + 1 then some ⟨g, o, none⟩ else some ⟨g, o + (i + 1), none⟩) → Rd (wr.setCell ⟨rb, 0, none⟩ (.slice p' (n - (i + 1)) (c - (i + 1)))) rb (some (l.drop (i + 1))) ∧ RdK rb wr (wr.setCell ⟨rb, 0, none⟩ (.slice p' (n - (i + 1)) (c - (i + 1))))) := fun p' hp => by
              refine ⟨⟨p', c - (i + 1), ?_, (byt_cut HB.out.2 (by have := HN.out; omega) hp).keep ((RdK.refl rb wr).set _) hl⟩, (RdK.refl rb wr).set _⟩
              rw [List.length_drop, HN.out]
              exact rd_set0 HB.out.1
            clear HS h2 hbb HI
            by_cases b0 : b.toNat = 0
            · have g6 : ((b.toNat : Int) == 0) = true := by simp [b0]
              have g7 := h5 g6
              have g8 : decide ((0 : Int) < (i : Int)) = false := decide_eq_false g7
              have g9 : ¬ 0 < i := by omega
              have g10 : decide (0 < i) = false := decide_eq_false g9
              clear h5 h3 b0
              by_cases hci : c = i + 1
              · have HX : Hid (Rd (wr.setCell ⟨rb, 0, none⟩ (.slice (some ⟨g, o, none⟩) (n - (i + 1)) 0)) rb (some (l.drop (i + 1))) ∧ RdK rb wr (wr.setCell ⟨rb, 0, none⟩ (.slice (some ⟨g, o, none⟩) (n - (i + 1)) 0))) := by
                  have := HP.out (some ⟨g, o, none⟩) (by rw [if_pos hci])
                  rw [show c - (i + 1) = 0 by omega] at this
                  exact this
                clear HP
                go_wp2_with fail
                go_ret
                exact ⟨by rw [HS2.out]; rfl, by rw [HS2.out]; exact HX.out⟩
              · have HX : Hid (Rd (wr.setCell ⟨rb, 0, none⟩ (.slice (some ⟨g, o + (i + 1), none⟩) (n - (i + 1)) (c - (i + 1)))) rb (some (l.drop (i + 1))) ∧ RdK rb wr (wr.setCell ⟨rb, 0, none⟩ (.slice (some ⟨g, o + (i + 1), none⟩) (n - (i + 1)) (c - (i + 1))))) := HP.out _ (by rw [if_neg hci])
                clear HP
                go_wp2_with fail
                go_ret
                exact ⟨by rw [HS2.out]; rfl, by rw [HS2.out]; exact HX.out⟩
            · have g6 : ((b.toNat : Int) == 0) = false := by rw [beq_eq_false_iff_ne]; omega
              clear h5 h3 b0
              by_cases hci : c = i + 1
              · have HX : Hid (Rd (wr.setCell ⟨rb, 0, none⟩ (.slice (some ⟨g, o, none⟩) (n - (i + 1)) 0)) rb (some (l.drop (i + 1))) ∧ RdK rb wr (wr.setCell ⟨rb, 0, none⟩ (.slice (some ⟨g, o, none⟩) (n - (i + 1)) 0))) := by
                  have := HP.out (some ⟨g, o, none⟩) (by rw [if_pos hci])
                  rw [show c - (i + 1) = 0 by omega] at this
                  exact this
                clear HP
                go_wp2_with fail
                go_ret
                exact ⟨by rw [HS2.out]; rfl, by rw [HS2.out]; exact HX.out⟩
              · have HX : Hid (Rd (wr.setCell ⟨rb, 0, none⟩ (.slice (some ⟨g, o + (i + 1), none⟩) (n - (i + 1)) (c - (i + 1)))) rb (some (l.drop (i + 1))) ∧ RdK rb wr (wr.setCell ⟨rb, 0, none⟩ (.slice (some ⟨g, o + (i + 1), none⟩) (n - (i + 1)) (c - (i + 1))))) := HP.out _ (by rw [if_neg hci])
                clear HP
                go_wp2_with fail
                go_ret
                exact ⟨by rw [HS2.out]; rfl, by rw [HS2.out]; exact HX.out⟩
end Go.Proofs.Ytnkkiepoljbhlaa

namespace Go.Proofs.Ytnkkiepoljbhlaa
open Go.RowKit

theorem number_any (w : World) (rb : Nat) (st : Option (List UInt8)) (h : Rd w rb st) : Calls Try.prog 56 #[.pointer (some ⟨rb, 0, none⟩)] w fun e w' => e = .returned (.int .i64 ((pNum st).1 : Nat)) ∧ Hid (Rd w' rb (pNum st).2 ∧ RdK rb w w') := by
  cases st with
  | none => exact number_none w rb h
  | some l => exact number_some w rb l h
theorem pNum_lt (st : Option (List UInt8)) : (pNum st).1 < 9223372036854775808 := by
  cases st with
  | none => exact (by decide : 0 < 9223372036854775808)
  | some l =>
    cases h : numA 9 0 0 l with
    | none => rw [pNum_none h]; decide
    | some x =>
      obtain ⟨n, r⟩ := x
      rw [pNum_some h]
      have := numA_lt (lim := 9) (i := 0) (n := 0) (by decide) h
      have h4 : (128 : Nat) ^ 9 = 9223372036854775808 := by decide
      show n < _
      omega
/-- a number of at most so much -/
def pUp (most : Nat) (st : Option (List UInt8)) : Nat × Option (List UInt8) := if most < (pNum st).1 then (0, none) else pNum st
set_option maxHeartbeats 1000000 in
theorem upTo_any (w : World) (rb most : Nat) (st : Option (List UInt8)) (h : Rd w rb st) : Calls Try.prog 60 #[.pointer (some ⟨rb, 0, none⟩), .int .i64 most] w fun e w' => e = .returned (.int .i64 ((pUp most st).1 : Nat)) ∧ Hid (Rd w' rb (pUp most st).2 ∧ RdK rb w w') := by
  have H56 : Hid (Calls Try.prog 56 #[.pointer (some ⟨rb, 0, none⟩)] w fun e w' => e = .returned (.int .i64 ((pNum st).1 : Nat)) ∧ Hid (Rd w' rb (pNum st).2 ∧ RdK rb w w')) := number_any w rb st h
  have H72 : Hid (∀ W s, Rd W rb s → Calls Try.prog 72 #[.pointer (some ⟨rb, 0, none⟩)] W fun e w' => e = .returned (.tuple #[]) ∧ Hid (Rd w' rb none ∧ RdK rb W w')) := fun W s h => fail_any W rb s h
  have hlt := pNum_lt st
  have HU : Hid (pUp most st = if most < (pNum st).1 then (0, none) else pNum st) := (rfl : _ = _)
  obtain ⟨x, hx⟩ : ∃ x, pNum st = x := ⟨_, rfl⟩
  rw [hx] at H56 hlt HU
  clear h hx
  obtain ⟨n, s⟩ := x
  by_cases hn : most < n
  · have g1 : (most : Int) < (n : Int) := by omega
    have g2 : decide ((most : Int) < (n : Int)) = true := decide_eq_true g1
    have HU2 : Hid (pUp most st = (0, none)) := by show _ = _; rw [HU.out, if_pos hn]
    go_enter Try.func60, Try.ntmps60
    go_wp2_with (first | (go_at_call 56; refine H56.out.mono ?_; rintro e w1 ⟨rfl, h1⟩) | (go_at_call 72; refine (H72.out _ _ h1.out.1).mono ?_; rintro e w2 ⟨rfl, h2⟩))
    go_ret
    exact ⟨by rw [HU2.out]; rfl, by rw [HU2.out]; exact ⟨h2.out.1, h1.out.2.trans h2.out.2⟩⟩
  · have g1 : ¬ (most : Int) < (n : Int) := by omega
    have g2 : decide ((most : Int) < (n : Int)) = false := decide_eq_false g1
    have HU2 : Hid (pUp most st = (n, s)) := by show _ = _; rw [HU.out, if_neg hn]
    go_enter Try.func60, Try.ntmps60
    go_wp2_with (go_at_call 56; refine H56.out.mono ?_; rintro e w1 ⟨rfl, h1⟩)
    go_ret
    exact ⟨by rw [HU2.out]; rfl, by rw [HU2.out]; exact h1.out⟩
theorem pUp_none {most : Nat} {st : Option (List UInt8)} {n : Nat} (h : pUp most st = (n, none)) : n = 0 := by
  unfold pUp at h
  split at h
  · cases h; rfl
  · cases st with
    | none => cases h; rfl
    | some l =>
      cases hq : numA 9 0 0 l with
      | none => rw [pNum_none hq] at h; cases h; rfl
      | some x =>
        obtain ⟨m, r⟩ := x
        rw [pNum_some hq] at h; cases h
theorem pUp_le {most : Nat} {st : Option (List UInt8)} : (pUp most st).1 ≤ most := by
  unfold pUp
  split
  · exact Nat.zero_le _
  · omega
/-- a text -/
def pTxt (st : Option (List UInt8)) : List UInt8 × Option (List UInt8) := match (pUp 64 st).2 with
  | none => ([], none)
  | some r => if r.length < (pUp 64 st).1 then ([], none) else (r.take (pUp 64 st).1, some (r.drop (pUp 64 st).1))
theorem conv_nil (w : World) (c : Nat) : (convert 38 9 (.slice none 0 c)).run Try.prog w = .ok (.string ⟨#[]⟩) w := Lib.run_convert_nil_bytes w 38 9 5 c Try.underlying38 Try.underlying5 Try.underlying9
theorem conv_byt {w : World} {rb c n : Nat} {p : Option Addr} {l : List UInt8} (h : Byt w rb p c l) (hn : n ≤ l.length) : (convert 38 9 (.slice p n c)).run Try.prog w = .ok (.string ⟨⟨l.take n⟩⟩) w := by
  cases p with
  | none =>
    have hc := h.nc rfl
    have : n = 0 := by have := h.cm; omega
    subst this
    rw [List.take_zero]
    exact conv_nil w c
  | some a =>
    have hsp := (h.bl a rfl).2
    obtain ⟨b, o, sp⟩ := a
    simp only at hsp
    subst hsp
    have hl : (l.take n).length = n := by rw [List.length_take]; omega
    have := run_convert_bytes_back (P := Try.prog) w 38 9 5 ⟨b, o, none⟩ c (l.take n) Try.underlying38 Try.underlying5 Try.underlying9 (fun j hj => by
      rcases h.ly with e | ⟨g', o', e, hrow⟩
      · subst e; simp at hj
      · cases e
        rw [hl] at hj
        rw [Addr.add_lit]
        have := hrow j (l.take n)[j] (by rw [List.getElem_take]; exact List.getElem?_eq_getElem _)
        exact this)
    rw [hl] at this
    exact this
set_option maxHeartbeats 2000000 in
set_option maxRecDepth 100000 in
theorem text_any (w : World) (rb : Nat) (st : Option (List UInt8)) (h : Rd w rb st) : Calls Try.prog 55 #[.pointer (some ⟨rb, 0, none⟩)] w fun e w' => e = .returned (.string ⟨⟨(pTxt st).1⟩⟩) ∧ Hid (Rd w' rb (pTxt st).2 ∧ RdK rb w w') := by
  have H60 : Hid (Calls Try.prog 60 #[.pointer (some ⟨rb, 0, none⟩), .int .i64 64] w fun e w' => e = .returned (.int .i64 ((pUp 64 st).1 : Nat)) ∧ Hid (Rd w' rb (pUp 64 st).2 ∧ RdK rb w w')) := upTo_any w rb 64 st h
  have H72 : Hid (∀ W s, Rd W rb s → Calls Try.prog 72 #[.pointer (some ⟨rb, 0, none⟩)] W fun e w' => e = .returned (.tuple #[]) ∧ Hid (Rd w' rb none ∧ RdK rb W w')) := fun W s h => fail_any W rb s h
  have hle := pUp_le (most := 64) (st := st)
  obtain ⟨x, hx⟩ : ∃ x, pUp 64 st = x := ⟨_, rfl⟩
  have HX : Hid (pUp 64 st = x) := hx
  rw [hx] at H60 hle
  clear hx h
  obtain ⟨n, s⟩ := x
  cases s with
  | none =>
    obtain rfl := pUp_none HX.out
    have HT : Hid (pTxt st = ([], none)) := by show _ = _; unfold pTxt; rw [HX.out]
    have hcv := conv_nil
    go_enter Try.func55, Try.ntmps55
    go_upto_region 2 with (go_at_call 60; refine H60.out.mono ?_; rintro e w1 ⟨rfl, h1⟩)
    obtain ⟨c0, c1, f0, f1⟩ := rd_cells h1.out.1
    have hlt : rb < w1.heap.size := Rd.lt (st := none) h1.out.1
    have HE : Hid (Rd (w1.setCell ⟨rb, 0, none⟩ (.slice none 0 0)) rb none ∧ RdK rb w (w1.setCell ⟨rb, 0, none⟩ (.slice none 0 0))) := ⟨rd_set0 h1.out.1, h1.out.2.set _⟩
    go_wp2_with fail
    go_ret
    exact ⟨by rw [HT.out]; rfl, by rw [HT.out]; exact HE.out⟩
  | some r =>
    obtain ⟨len, hlen⟩ : ∃ len, r.length = len := ⟨_, rfl⟩
    have HLEN : Hid (r.length = len) := hlen
    by_cases hn : len < n
    · have g1 : (len : Int) < (n : Int) := by omega
      have HT : Hid (pTxt st = ([], none)) := by
        show _ = _
        unfold pTxt
        rw [HX.out]
        exact if_pos (by rw [hlen]; exact hn)
      have hr1 : Hid (∀ W, Rd W rb (some r) → ∃ p c, W.heap[rb]? = some (.cells #[.slice p len c, .bool false] 89 (0, 0))) := fun W ⟨p, c, h1, _⟩ => ⟨p, c, by rw [← HLEN.out]; exact h1⟩
      clear hlen
      go_enter Try.func55, Try.ntmps55
      go_upto_region 2 with (go_at_call 60; refine H60.out.mono ?_; rintro e w1 ⟨rfl, h1⟩)
      obtain ⟨p, c, hb⟩ := hr1.out _ h1.out.1
      have H1 : Hid (Rd w1 rb (some r)) := h1.out.1
      obtain ⟨c0, c1, f0, f1⟩ := rd_cells hb
      have hlt : rb < w1.heap.size := Rd.lt H1.out
      clear hb
      go_wp2_with (go_at_call 72; refine (H72.out _ _ H1.out).mono ?_; rintro e w2 ⟨rfl, h2⟩)
      go_ret
      exact ⟨by rw [HT.out]; rfl, by rw [HT.out]; exact ⟨h2.out.1, h1.out.2.trans h2.out.2⟩⟩
    · have g1 : ¬ (len : Int) < (n : Int) := by omega
      have HT : Hid (pTxt st = (r.take n, some (r.drop n))) := by
        show _ = _
        unfold pTxt
        rw [HX.out]
        exact if_neg (by rw [hlen]; exact hn)
      have hr1 : Hid (∀ W, Rd W rb (some r) → ∃ p c, W.heap[rb]? = some (.cells #[.slice p len c, .bool false] 89 (0, 0)) ∧ Byt W rb p c r) := fun W ⟨p, c, h1, h2⟩ => ⟨p, c, by rw [← HLEN.out]; exact h1, h2⟩
      clear hlen
      go_enter Try.func55, Try.ntmps55
      go_upto_region 2 with (go_at_call 60; refine H60.out.mono ?_; rintro e w1 ⟨rfl, h1⟩)
      obtain ⟨p, c, hb, hB⟩ := hr1.out _ h1.out.1
      have HB : Hid (w1.heap[rb]? = some (.cells #[.slice p len c, .bool false] 89 (0, 0)) ∧ Byt w1 rb p c r) := ⟨hb, hB⟩
      obtain ⟨c0, c1, f0, f1⟩ := rd_cells hb
      have hlt : rb < w1.heap.size := Rd.lt (st := some r) h1.out.1
      have hcv := conv_byt hB (n := n) (by have := HLEN.out; omega)
      have hnc : n ≤ c := by have := hB.cm; have := HLEN.out; omega
      have hnc' : (n : Int) ≤ (c : Int) := by omega
      have hnl : (n : Int) ≤ (len : Int) := by omega
      clear hb hB
      cases p with
      | none =>
        have hc0 : c = 0 := HB.out.2.nc rfl
        subst hc0
        obtain rfl : n = 0 := by omega
        have hl0 : len = 0 := by have := HB.out.2.cm; have := HLEN.out; omega
        subst hl0
        have HE : Hid (Rd (w1.setCell ⟨rb, 0, none⟩ (.slice none 0 0)) rb (some (r.drop 0)) ∧ RdK rb w (w1.setCell ⟨rb, 0, none⟩ (.slice none 0 0))) := by
          refine ⟨⟨none, 0, ?_, ?_⟩, h1.out.2.set _⟩
          · rw [List.drop_zero, HLEN.out]; exact rd_set0 HB.out.1
          · rw [List.drop_zero]; exact HB.out.2.keep ((RdK.refl rb w1).set _) hlt
        clear g1 hnc' hnl hnc
        go_wp2_with fail
        go_ret
        exact ⟨by rw [HT.out]; rfl, by rw [HT.out]; exact HE.out⟩
      | some a =>
        have hsp := (HB.out.2.bl a rfl).2
        obtain ⟨g, o, sp⟩ := a
        simp only at hsp
        subst hsp
        have HP : Hid (∀ p', (p' = if c = n then some ⟨g, o, none⟩ else some ⟨g, o + n, none⟩) → Rd (w1.setCell ⟨rb, 0, none⟩ (.slice p' (len - n) (c - n))) rb (some (r.drop n)) ∧ RdK rb w (w1.setCell ⟨rb, 0, none⟩ (.slice p' (len - n) (c - n)))) := fun p' hp => by
          refine ⟨⟨p', c - n, ?_, (byt_cut HB.out.2 (by have := HLEN.out; omega) hp).keep ((RdK.refl rb w1).set _) hlt⟩, h1.out.2.set _⟩
          rw [List.length_drop, HLEN.out]
          exact rd_set0 HB.out.1
        by_cases hci : c = n
        · have HE : Hid (Rd (w1.setCell ⟨rb, 0, none⟩ (.slice (some ⟨g, o, none⟩) (len - n) 0)) rb (some (r.drop n)) ∧ RdK rb w (w1.setCell ⟨rb, 0, none⟩ (.slice (some ⟨g, o, none⟩) (len - n) 0))) := by
            have := HP.out (some ⟨g, o, none⟩) (by rw [if_pos hci])
            rw [show c - n = 0 by omega] at this
            exact this
          clear HP
          subst hci
          clear hnc hnc'
          go_wp2_with fail
          go_ret
          exact ⟨by rw [HT.out]; rfl, by rw [HT.out]; exact HE.out⟩
        · have HE : Hid (Rd (w1.setCell ⟨rb, 0, none⟩ (.slice (some ⟨g, o + n, none⟩) (len - n) (c - n))) rb (some (r.drop n)) ∧ RdK rb w (w1.setCell ⟨rb, 0, none⟩ (.slice (some ⟨g, o + n, none⟩) (len - n) (c - n)))) := HP.out _ (by rw [if_neg hci])
          clear HP
          go_wp2_with fail
          go_ret
          exact ⟨by rw [HT.out]; rfl, by rw [HT.out]; exact HE.out⟩
end Go.Proofs.Ytnkkiepoljbhlaa
