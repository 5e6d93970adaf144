/-
  The contracts of allFormed and of Sum.
-/
import Derived.Test.YtcndmhanabgamaaWalkB
namespace Go.Proofs.Ytcndmhanabgamaa
open Go.RowKit

/-- four numbers -/
structure V where
  a : Int
  b : Int
  c : Int
  d : Int
  deriving Inhabited

def V.ok (v : V) : Bool := fm v.a v.b v.c v.d

/-- vectors, one behind the other -/
def Row (w : World) (p o : Nat) (l : List V) : Prop := ∀ (i : Nat) (v : V), l[i]? = some v → w.cell? ⟨p, o + i * 4, none⟩ = some (.int .i64 v.a) ∧ w.cell? ⟨p, o + i * 4 + 1, none⟩ = some (.int .i64 v.b) ∧ w.cell? ⟨p, o + i * 4 + 2, none⟩ = some (.int .i64 v.c) ∧ w.cell? ⟨p, o + i * 4 + 3, none⟩ = some (.int .i64 v.d)

theorem Row.keep {w w1 : World} {p o B : Nat} {l : List V} (b : Below B w w1) (hB : w.heap.size ≤ B) (h : Row w p o l) : Row w1 p o l := fun i v hv => by
  obtain ⟨h0, h1, h2, h3⟩ := h i v hv
  have hp : p < B := Nat.lt_of_lt_of_le (block_lt_of_cell h0) hB
  exact ⟨(b.cell hp).trans h0, (b.cell hp).trans h1, (b.cell hp).trans h2, (b.cell hp).trans h3⟩

def allOk (l : List V) : Bool := l.all V.ok

set_option maxHeartbeats 1000000 in
theorem allFormed_any (l : List V) (p o c : Nat) (w : World) (hn : l.length < 1152921504606846976) (hr : Row w p o l) :
    Calls Try.prog 26 #[.slice (some ⟨p, o, none⟩) l.length c] w fun e w' => e = .returned (.bool (allOk l)) ∧ Below w.heap.size w w' := by
  generalize hL : l.length = n at *
  have HL : Hid (l.length = n) := hL
  have HR : Hid (Row w p o l) := hr
  have HC : Hid (∀ (a b c d : Int) (w : World), Calls Try.prog 10 #[.agg #[.int .i64 a, .int .i64 b, .int .i64 c, .int .i64 d]] w fun e w' => e = .returned (.bool (fm a b c d)) ∧ Below w.heap.size w w') := fun a b c d w => formed_any a b c d w
  clear hL hr
  go_enter Try.func26, Try.ntmps26
  go_wp2_with fail
  go_loopw [7] (fun x wr => ∃ k : Nat, x = .int .i64 k ∧ k ≤ n ∧ (∀ (i : Nat) (v : V), i < k → l[i]? = some v → v.ok = true) ∧ Below w.heap.size w wr) (fun x _ => (n : Int).toNat - (intOf x).toNat)
  case atStart => exact ⟨0, rfl, by omega, fun _ _ h => absurd h (by omega), Below.refl _ _⟩
  case round =>
    obtain ⟨k, rfl, hk, hall, hb⟩ := hrel
    by_cases h0 : k = n
    · subst h0
      go_wp2_with fail
      go_ret
      refine ⟨congrArg (fun b => Ending.returned (Value.bool b)) ?_, hb⟩
      refine (List.all_eq_true.2 fun v hv => ?_).symm
      obtain ⟨i, hi⟩ := List.mem_iff_getElem?.1 hv
      have hi' := (List.getElem?_eq_some_iff.1 hi).1
      exact hall i v (by have := HL.out; omega) hi
    · have hlt : k < l.length := by have := HL.out; omega
      have hlt' : (k : Int) < (n : Int) := by omega
      have hd : decide ((k : Int) < (n : Int)) = true := decide_eq_true hlt'
      obtain ⟨v, hv⟩ : ∃ v, l[k]? = some v := ⟨l[k], List.getElem?_eq_getElem hlt⟩
      obtain ⟨a, b, c', d⟩ := v
      obtain ⟨c0, c1, c2, c3⟩ := (HR.out.keep hb (Nat.le_refl _)) k _ hv
      simp only [] at c0 c1 c2 c3
      have HB : Hid (Below w.heap.size w wr) := hb
      have HA : Hid (∀ (i : Nat) (v : V), i < k → l[i]? = some v → v.ok = true) := hall
      clear hb hall
      by_cases hf : fm a b c' d = true
      · have HC' : Hid (∀ (w : World), Calls Try.prog 10 #[.agg #[.int .i64 a, .int .i64 b, .int .i64 c', .int .i64 d]] w fun e w' => e = .returned (.bool true) ∧ Below w.heap.size w w') := fun w => by have := HC.out a b c' d w; rwa [hf] at this
        clear HC
        go_wp2_with (go_at_call 10; refine (HC'.out _).mono ?_; rintro e w1 ⟨rfl, b1⟩)
        refine ⟨⟨k + 1, ?_, by omega, ?_, ?_⟩, ?_⟩
        · simp
        · intro i v hi hiv
          by_cases hik : i = k
          · subst hik
            rw [hv] at hiv
            obtain rfl := Option.some.inj hiv
            exact hf
          · exact HA.out i v (by omega) hiv
        · exact below_from (HB.out.alloc HB.out.size _) b1 (by have := HB.out.size; simp; omega)
        · simp only [intOf]; omega
      · have HC' : Hid (∀ (w : World), Calls Try.prog 10 #[.agg #[.int .i64 a, .int .i64 b, .int .i64 c', .int .i64 d]] w fun e w' => e = .returned (.bool false) ∧ Below w.heap.size w w') := fun w => by have := HC.out a b c' d w; rwa [Bool.eq_false_iff.2 hf] at this
        clear HC
        go_wp2_with (go_at_call 10; refine (HC'.out _).mono ?_; rintro e w1 ⟨rfl, b1⟩)
        go_ret
        refine ⟨congrArg (fun b => Ending.returned (Value.bool b)) ?_, below_from (HB.out.alloc HB.out.size _) b1 (by have := HB.out.size; simp; omega)⟩
        symm
        refine Bool.eq_false_iff.2 fun h => hf ?_
        exact List.all_eq_true.1 h _ (List.mem_of_getElem? hv)

set_option maxHeartbeats 400000 in
theorem allFormed_nil (q : Option Addr) (c : Nat) (w : World) :
    Calls Try.prog 26 #[.slice q 0 c] w fun e w' => e = .returned (.bool true) ∧ Below w.heap.size w w' := by
  go_enter Try.func26, Try.ntmps26
  go_wp2_with fail
  go_rounds 1
  go_returns
  exact ⟨rfl, Below.refl _ _⟩

end Go.Proofs.Ytcndmhanabgamaa
