/-
  Vectors: formed, within, held against each other, added.
-/
import Derived.Test.YtjgibngnjlciaaaGreatBase
import Derived.DeepKeys
namespace Go.Proofs.YtjgibngnjlciaaaGreat
open Go.RowKit

/-- a number that a formed vector may have -/
def okI (x : Int) : Bool := decide (0 ≤ x ∧ x ≤ 1099511627776)
def fm (a b c d : Int) : Bool := okI a && (okI b && (okI c && okI d))
/-- which comes first -/
def o1 (a b : Int) (r : Int) : Int := if a < b then -1 else if b < a then 1 else r
def cm (a b c d e f g h : Int) : Int := o1 a e (o1 b f (o1 c g (o1 d h 0)))
def ft (a b c d e f g h : Int) : Bool := decide (a ≤ e) && (decide (b ≤ f) && (decide (c ≤ g) && decide (d ≤ h)))
theorem okI_yes {x : Int} (h0 : ¬ x < 0) (h1 : ¬ 1099511627776 < x) : okI x = true := by unfold okI; exact decide_eq_true ⟨by omega, by omega⟩
theorem okI_neg {x : Int} (h0 : x < 0) : okI x = false := by unfold okI; exact decide_eq_false (by omega)
theorem okI_top {x : Int} (h0 : 1099511627776 < x) : okI x = false := by unfold okI; exact decide_eq_false (by omega)
theorem okI_iff {x : Int} : okI x = true ↔ 0 ≤ x ∧ x ≤ 1099511627776 := by unfold okI; exact decide_eq_true_iff
theorem ix0 (a b c d : Value) : ∀ w, (Instr.index 40 (.agg #[a, b, c, d]) (.int .i64 0)).run Tryz.prog w = .ok a w := fun _ => by kernel_rfl
theorem ix1 (a b c d : Value) : ∀ w, (Instr.index 40 (.agg #[a, b, c, d]) (.int .i64 1)).run Tryz.prog w = .ok b w := fun _ => by kernel_rfl
theorem ix2 (a b c d : Value) : ∀ w, (Instr.index 40 (.agg #[a, b, c, d]) (.int .i64 2)).run Tryz.prog w = .ok c w := fun _ => by kernel_rfl
theorem ix3 (a b c d : Value) : ∀ w, (Instr.index 40 (.agg #[a, b, c, d]) (.int .i64 3)).run Tryz.prog w = .ok d w := fun _ => by kernel_rfl
set_option maxHeartbeats 1000000 in
theorem formed_any (a b c d : Int) (w : World) :
    Calls Tryz.prog 61 #[.agg #[.int .i64 a, .int .i64 b, .int .i64 c, .int .i64 d]] w fun e w' => e = .returned (.bool (fm a b c d)) ∧ Below w.heap.size w w' := by
  have i0 := ix0 (.int .i64 a) (.int .i64 b) (.int .i64 c) (.int .i64 d)
  have i1 := ix1 (.int .i64 a) (.int .i64 b) (.int .i64 c) (.int .i64 d)
  have i2 := ix2 (.int .i64 a) (.int .i64 b) (.int .i64 c) (.int .i64 d)
  have i3 := ix3 (.int .i64 a) (.int .i64 b) (.int .i64 c) (.int .i64 d)
  go_enter Tryz.func61, Tryz.ntmps61
  go_wp2_with fail
  go_rounds 5
  all_goals (go_returns; refine ⟨congrArg (fun b => Ending.returned (Value.bool b)) ?_, by go_grown⟩)
  all_goals (clear i0 i1 i2 i3; unfold fm okI; simp; omega)
set_option maxHeartbeats 1000000 in
theorem rformed_any (a b c d : Int) (w : World) :
    Calls Tryz.prog 57 #[.agg #[.int .i64 a, .int .i64 b, .int .i64 c, .int .i64 d]] w fun e w' => e = .returned (.bool (fm a b c d)) ∧ Below w.heap.size w w' := by
  go_enter Tryz.func57, Tryz.ntmps57
  go_wp2_with fail
  go_rounds 5
  all_goals (go_returns; refine ⟨congrArg (fun b => Ending.returned (Value.bool b)) ?_, by go_grown⟩)
  all_goals (unfold fm okI; simp; omega)
set_option maxHeartbeats 2000000 in
theorem fits_any (a b c d e f g h : Int) (w : World) :
    Calls Tryz.prog 52 #[.agg #[.int .i64 a, .int .i64 b, .int .i64 c, .int .i64 d], .agg #[.int .i64 e, .int .i64 f, .int .i64 g, .int .i64 h]] w fun r w' => r = .returned (.bool (ft a b c d e f g h)) ∧ Below w.heap.size w w' := by
  have i0 := ix0 (.int .i64 a) (.int .i64 b) (.int .i64 c) (.int .i64 d)
  have i1 := ix1 (.int .i64 a) (.int .i64 b) (.int .i64 c) (.int .i64 d)
  have i2 := ix2 (.int .i64 a) (.int .i64 b) (.int .i64 c) (.int .i64 d)
  have i3 := ix3 (.int .i64 a) (.int .i64 b) (.int .i64 c) (.int .i64 d)
  go_enter Tryz.func52, Tryz.ntmps52
  go_wp2_with fail
  go_rounds 5
  all_goals (go_returns; refine ⟨congrArg (fun b => Ending.returned (Value.bool b)) ?_, by go_grown⟩)
  all_goals (clear i0 i1 i2 i3; unfold ft; simp; omega)
set_option maxHeartbeats 2000000 in
theorem rfits_any (a b c d e f g h : Int) (w : World) :
    Calls Tryz.prog 35 #[.agg #[.int .i64 a, .int .i64 b, .int .i64 c, .int .i64 d], .agg #[.int .i64 e, .int .i64 f, .int .i64 g, .int .i64 h]] w fun r w' => r = .returned (.bool (ft a b c d e f g h)) ∧ Below w.heap.size w w' := by
  go_enter Tryz.func35, Tryz.ntmps35
  go_wp2_with fail
  all_goals (go_returns; refine ⟨congrArg (fun b => Ending.returned (Value.bool b)) ?_, by go_grown⟩)
  all_goals (unfold ft; rw [Bool.eq_iff_iff]; simp; omega)
set_option maxHeartbeats 4000000 in
theorem rcmp_any (a b c d e f g h : Int) (w : World) :
    Calls Tryz.prog 58 #[.agg #[.int .i64 a, .int .i64 b, .int .i64 c, .int .i64 d], .agg #[.int .i64 e, .int .i64 f, .int .i64 g, .int .i64 h]] w fun r w' => r = .returned (.int .i64 (cm a b c d e f g h)) ∧ Below w.heap.size w w' := by
  go_enter Tryz.func58, Tryz.ntmps58
  go_wp2_with fail
  refine wp_loop_rounds 5 ?_
  repeat any_goals first | (rw [rounds_succ]; go_wp2_with fail) | (go_quiet (fail); go_wp2_with fail)
  all_goals (go_returns; refine ⟨congrArg (fun b => Ending.returned (Value.int .i64 b)) ?_, ?_⟩)
  all_goals first
    | (unfold cm o1; (repeat' split) <;> omega)
    | (repeat' (first | exact ((Below.refl _ w).alloc (Nat.le_refl _) _).alloc (by simp) _ | refine below_drewN ?_ _))
def ordI (a b : Int) : Int := if a < b then -1 else if b < a then 1 else 0
set_option maxHeartbeats 400000 in
theorem isNaNi_any (a : Int) (w : World) : Calls Tryz.prog 100 #[.int .i64 a] w fun e w' => e = .returned (.bool false) ∧ w' = w := by
  go_enter Tryz.func100, Tryz.ntmps100
  go_wp2
  go_ret
  exact ⟨by simp, rfl⟩
set_option maxHeartbeats 400000 in
theorem comparei_any (a b : Int) (w : World) : Calls Tryz.prog 92 #[.int .i64 a, .int .i64 b] w fun e w' => e = .returned (.int .i64 (ordI a b)) ∧ w' = w := by
  go_enter Tryz.func92, Tryz.ntmps92
  go_wp2_with (go_at_call 100; refine (isNaNi_any _ _).mono ?_; rintro e w' ⟨rfl, rfl⟩)
  · rename_i h; go_ret; rw [ordI, if_pos h]; exact ⟨rfl, rfl⟩
  · rename_i h h2; go_ret; rw [ordI, if_neg (by omega), if_pos (by omega)]; exact ⟨rfl, rfl⟩
  · rename_i h h2; go_ret; rw [ordI, if_neg (by omega), if_neg (by omega)]; exact ⟨rfl, rfl⟩
theorem cm_ord (a b c d e f g h : Int) : cm a b c d e f g h = if ordI a e ≠ 0 then ordI a e else if ordI b f ≠ 0 then ordI b f else if ordI c g ≠ 0 then ordI c g else ordI d h := by
  unfold cm o1 ordI
  (repeat' split) <;> simp_all <;> omega
set_option maxHeartbeats 2000000 in
theorem scmp_any (a b c d e f g h : Int) (p q : Nat) (w : World)
    (a0 : w.cell? ⟨p, 0, none⟩ = some (.int .i64 a)) (a1 : w.cell? ⟨p, 1, none⟩ = some (.int .i64 b)) (a2 : w.cell? ⟨p, 2, none⟩ = some (.int .i64 c)) (a3 : w.cell? ⟨p, 3, none⟩ = some (.int .i64 d))
    (b0 : w.cell? ⟨q, 0, none⟩ = some (.int .i64 e)) (b1 : w.cell? ⟨q, 1, none⟩ = some (.int .i64 f)) (b2 : w.cell? ⟨q, 2, none⟩ = some (.int .i64 g)) (b3 : w.cell? ⟨q, 3, none⟩ = some (.int .i64 h)) :
    Calls Tryz.prog 70 #[.slice (some ⟨p, 0, none⟩) 4 4, .slice (some ⟨q, 0, none⟩) 4 4] w fun x w' => x = .returned (.int .i64 (cm a b c d e f g h)) ∧ w' = w := by
  have HR : Hid (cm a b c d e f g h = if ordI a e ≠ 0 then ordI a e else if ordI b f ≠ 0 then ordI b f else if ordI c g ≠ 0 then ordI c g else ordI d h) := cm_ord a b c d e f g h
  generalize cm a b c d e f g h = r at *
  have HC : Hid (∀ (x y : Int) (w : World), Calls Tryz.prog 92 #[.int .i64 x, .int .i64 y] w fun e w' => e = .returned (.int .i64 (ordI x y)) ∧ w' = w) := fun x y w => comparei_any x y w
  go_enter Tryz.func70, Tryz.ntmps70
  go_wp2_with fail
  refine wp_loop_rounds 5 ?_
  repeat any_goals (rw [rounds_succ]; go_wp2_with (go_at_call 92; refine (HC.out _ _ _).mono ?_; rintro e w' ⟨rfl, rfl⟩))
  all_goals (go_returns; refine ⟨congrArg (fun b => Ending.returned (Value.int .i64 b)) ?_, rfl⟩)
  all_goals (rw [HR.out]; clear HR HC; (repeat' split) <;> simp_all)
theorem at_alloc {w : World} {n : Nat} {o x : Obj} (h : w.heap[n]? = some x) : (w.alloc o).heap[n]? = some x := (Below.heap_alloc w o n (Array.getElem?_eq_some_iff.1 h).1).trans h
theorem at_drew {w : World} {n : Nat} {x : Obj} (h : w.heap[n]? = some x) : w.drew.heap[n]? = some x := h
theorem at_drewN {w : World} {n k : Nat} {x : Obj} (h : w.heap[n]? = some x) : (w.drewN k).heap[n]? = some x := h
theorem new1 {w : World} {o o' : Obj} : ((w.alloc o).alloc o').heap[w.heap.size + 1]? = some o' := by
  have := new0 (w := w.alloc o) (o := o')
  rwa [World.size_alloc] at this
theorem first0 {w : World} {A B : Obj} : ((w.alloc A).alloc B).heap[w.heap.size]? = some A := at_alloc new0
theorem first1 {w : World} {A B : Obj} : ((w.alloc A).alloc B).heap[w.heap.size + 1]? = some B := new1
set_option maxHeartbeats 1000000 in
theorem cmp_any (a b c d e f g h : Int) (w : World) :
    Calls Tryz.prog 51 #[.agg #[.int .i64 a, .int .i64 b, .int .i64 c, .int .i64 d], .agg #[.int .i64 e, .int .i64 f, .int .i64 g, .int .i64 h]] w fun r w' => r = .returned (.int .i64 (cm a b c d e f g h)) ∧ Below w.heap.size w w' := by
  have HC : Hid (∀ (p q : Nat) (w : World), w.cell? ⟨p, 0, none⟩ = some (.int .i64 a) → w.cell? ⟨p, 1, none⟩ = some (.int .i64 b) → w.cell? ⟨p, 2, none⟩ = some (.int .i64 c) → w.cell? ⟨p, 3, none⟩ = some (.int .i64 d) → w.cell? ⟨q, 0, none⟩ = some (.int .i64 e) → w.cell? ⟨q, 1, none⟩ = some (.int .i64 f) → w.cell? ⟨q, 2, none⟩ = some (.int .i64 g) → w.cell? ⟨q, 3, none⟩ = some (.int .i64 h) →
      Calls Tryz.prog 70 #[.slice (some ⟨p, 0, none⟩) 4 4, .slice (some ⟨q, 0, none⟩) 4 4] w fun x w' => x = .returned (.int .i64 (cm a b c d e f g h)) ∧ w' = w) := fun p q w => scmp_any a b c d e f g h p q w
  generalize cm a b c d e f g h = r at *
  go_enter Tryz.func51, Tryz.ntmps51
  go_wp2_with fail
  go_quiet ((go_at_call 70; exact Calls.quiet_of_same (HC.out _ _ _ (Lib.cell_of_heap (at_drewN first0) 0) (Lib.cell_of_heap (at_drewN first0) 1) (Lib.cell_of_heap (at_drewN first0) 2) (Lib.cell_of_heap (at_drewN first0) 3) (Lib.cell_of_heap (at_drewN first1) 0) (Lib.cell_of_heap (at_drewN first1) 1) (Lib.cell_of_heap (at_drewN first1) 2) (Lib.cell_of_heap (at_drewN first1) 3))))
  go_wp2_with fail
  go_returns
  refine ⟨rfl, below_drewN ?_ _⟩
  exact ((Below.refl _ w).alloc (Nat.le_refl _) _).alloc (by simp) _
/-- four numbers -/
structure V where
  a : Int
  b : Int
  c : Int
  d : Int
  deriving Inhabited, DecidableEq
def V.ok (v : V) : Bool := fm v.a v.b v.c v.d
/-- vectors, one behind the other -/
def VRow (w : World) (p o : Nat) (l : List V) : Prop := ∀ (i : Nat) (v : V), l[i]? = some v → w.cell? ⟨p, o + i * 4, none⟩ = some (.int .i64 v.a) ∧ w.cell? ⟨p, o + i * 4 + 1, none⟩ = some (.int .i64 v.b) ∧ w.cell? ⟨p, o + i * 4 + 2, none⟩ = some (.int .i64 v.c) ∧ w.cell? ⟨p, o + i * 4 + 3, none⟩ = some (.int .i64 v.d)
theorem VRow.keep {w w1 : World} {p o B : Nat} {l : List V} (b : Below B w w1) (hB : w.heap.size ≤ B) (h : VRow w p o l) : VRow w1 p o l := fun i v hv => by
  obtain ⟨h0, h1, h2, h3⟩ := h i v hv
  have hp : p < B := Nat.lt_of_lt_of_le (block_lt_of_cell h0) hB
  exact ⟨(b.cell hp).trans h0, (b.cell hp).trans h1, (b.cell hp).trans h2, (b.cell hp).trans h3⟩
def allOk (l : List V) : Bool := l.all V.ok
set_option maxHeartbeats 1000000 in
theorem allFormed_any (l : List V) (p o c : Nat) (w : World) (hn : l.length < 1152921504606846976) (hr : VRow w p o l) :
    Calls Tryz.prog 53 #[.slice (some ⟨p, o, none⟩) l.length c] w fun e w' => e = .returned (.bool (allOk l)) ∧ Below w.heap.size w w' := by
  generalize hL : l.length = n at *
  have HL : Hid (l.length = n) := hL
  have HR : Hid (VRow w p o l) := hr
  have HC : Hid (∀ (a b c d : Int) (w : World), Calls Tryz.prog 61 #[.agg #[.int .i64 a, .int .i64 b, .int .i64 c, .int .i64 d]] w fun e w' => e = .returned (.bool (fm a b c d)) ∧ Below w.heap.size w w') := fun a b c d w => formed_any a b c d w
  clear hL hr
  go_enter Tryz.func53, Tryz.ntmps53
  go_wp2_with fail
  go_loopw [7] (fun x wr => ∃ k : Nat, x = .int .i64 k ∧ k ≤ n ∧ (∀ (i : Nat) (v : V), i < k → l[i]? = some v → v.ok = true) ∧ Below w.heap.size w wr) (fun x _ => (n : Int).toNat - (intOf x).toNat)
  case atStart => exact ⟨0, rfl, by omega, fun _ _ h => absurd h (by omega), Below.refl _ _⟩
  case round =>
    obtain ⟨k, rfl, hk, hall, hb⟩ := hrel
    by_cases h0 : k = n
    · subst h0
      go_wp2_with fail
      go_ret
      refine ⟨congrArg (fun b => Ending.returned (Value.bool b)) ?_, hb⟩
      refine (List.all_eq_true.2 fun v hv => ?_).symm
      obtain ⟨i, hi⟩ := List.mem_iff_getElem?.1 hv
      have hi' := (List.getElem?_eq_some_iff.1 hi).1
      exact hall i v (by have := HL.out; omega) hi
    · have hlt : k < l.length := by have := HL.out; omega
      have hlt' : (k : Int) < (n : Int) := by omega
      have hd : decide ((k : Int) < (n : Int)) = true := decide_eq_true hlt'
      obtain ⟨v, hv⟩ : ∃ v, l[k]? = some v := ⟨l[k], List.getElem?_eq_getElem hlt⟩
      obtain ⟨a, b, c', d⟩ := v
      obtain ⟨c0, c1, c2, c3⟩ := (HR.out.keep hb (Nat.le_refl _)) k _ hv
      simp only [] at c0 c1 c2 c3
      have HB : Hid (Below w.heap.size w wr) := hb
      have HA : Hid (∀ (i : Nat) (v : V), i < k → l[i]? = some v → v.ok = true) := hall
      clear hb hall
      by_cases hf : fm a b c' d = true
      · have HC' : Hid (∀ (w : World), Calls Tryz.prog 61 #[.agg #[.int .i64 a, .int .i64 b, .int .i64 c', .int .i64 d]] w fun e w' => e = .returned (.bool true) ∧ Below w.heap.size w w') := fun w => by have := HC.out a b c' d w; rwa [hf] at this
        clear HC
        go_wp2_with (go_at_call 61; refine (HC'.out _).mono ?_; rintro e w1 ⟨rfl, b1⟩)
        refine ⟨⟨k + 1, ?_, by omega, ?_, ?_⟩, ?_⟩
        · simp
        · intro i v hi hiv
          by_cases hik : i = k
          · subst hik
            rw [hv] at hiv
            obtain rfl := Option.some.inj hiv
            exact hf
          · exact HA.out i v (by omega) hiv
        · exact below_from (HB.out.alloc HB.out.size _) b1 (by have := HB.out.size; simp; omega)
        · simp only [intOf]; omega
      · have HC' : Hid (∀ (w : World), Calls Tryz.prog 61 #[.agg #[.int .i64 a, .int .i64 b, .int .i64 c', .int .i64 d]] w fun e w' => e = .returned (.bool false) ∧ Below w.heap.size w w') := fun w => by have := HC.out a b c' d w; rwa [Bool.eq_false_iff.2 hf] at this
        clear HC
        go_wp2_with (go_at_call 61; refine (HC'.out _).mono ?_; rintro e w1 ⟨rfl, b1⟩)
        go_ret
        refine ⟨congrArg (fun b => Ending.returned (Value.bool b)) ?_, below_from (HB.out.alloc HB.out.size _) b1 (by have := HB.out.size; simp; omega)⟩
        symm
        refine Bool.eq_false_iff.2 fun h => hf ?_
        exact List.all_eq_true.1 h _ (List.mem_of_getElem? hv)
set_option maxHeartbeats 400000 in
theorem allFormed_nil (q : Option Addr) (c : Nat) (w : World) :
    Calls Tryz.prog 53 #[.slice q 0 c] w fun e w' => e = .returned (.bool true) ∧ Below w.heap.size w w' := by
  go_enter Tryz.func53, Tryz.ntmps53
  go_wp2_with fail
  go_rounds 1
  go_returns
  exact ⟨rfl, Below.refl _ _⟩
def V.add (v u : V) : V := ⟨v.a + u.a, v.b + u.b, v.c + u.c, v.d + u.d⟩
def V.nil : V := ⟨0, 0, 0, 0⟩
def sumF : V → List V → V × Nat
  | s, [] => (s, 0)
  | s, v :: l => if (s.add v).ok then sumF (s.add v) l else (V.nil, 7)
def sumR (l : List V) : V × Nat := if allOk l then sumF V.nil l else (V.nil, 4)
/-- a vector and an error's number -/
def ansV (r : V × Nat) : Ending := .returned (.tuple #[.agg #[.int .i64 r.1.a, .int .i64 r.1.b, .int .i64 r.1.c, .int .i64 r.1.d], .int .i64 r.2])
theorem cells4 {w : World} {g : Nat} {x y z u : Value} {ty : TypeId} (h : w.heap[g]? = some (.cells #[x, y, z, u] ty)) :
    w.cell? ⟨g, 0, none⟩ = some x ∧ w.cell? ⟨g, 1, none⟩ = some y ∧ w.cell? ⟨g, 2, none⟩ = some z ∧ w.cell? ⟨g, 3, none⟩ = some u ∧ w.frozen? ⟨g, 0, none⟩ = false ∧ w.frozen? ⟨g, 1, none⟩ = false ∧ w.frozen? ⟨g, 2, none⟩ = false ∧ w.frozen? ⟨g, 3, none⟩ = false ∧ g < w.heap.size ∧ ¬ g = w.heap.size := by
  have h2 : g < w.heap.size := (Array.getElem?_eq_some_iff.1 h).1
  exact ⟨Lib.cell_of_heap h 0, Lib.cell_of_heap h 1, Lib.cell_of_heap h 2, Lib.cell_of_heap h 3, Lib.frozen_of_heap h 0, Lib.frozen_of_heap h 1, Lib.frozen_of_heap h 2, Lib.frozen_of_heap h 3, h2, by omega⟩
theorem at_set4 {W : World} {g : Nat} {x y z u v0 v1 v2 v3 : Value} {ty : TypeId} (h : W.heap[g]? = some (.cells #[x, y, z, u] ty)) : ((((W.setCell ⟨g, 0, none⟩ v0).setCell ⟨g, 1, none⟩ v1).setCell ⟨g, 2, none⟩ v2).setCell ⟨g, 3, none⟩ v3).heap[g]? = some (.cells #[v0, v1, v2, v3] ty) :=
  heap_setCell_same _ g 3 #[v0, v1, v2, u] ty v3 (heap_setCell_same _ g 2 #[v0, v1, z, u] ty v2 (heap_setCell_same _ g 1 #[v0, y, z, u] ty v1 (heap_setCell_same W g 0 #[x, y, z, u] ty v0 h)))
theorem at_other {W : World} {g g' k : Nat} {v : Value} {o : Obj} (h : W.heap[g]? = some o) (hne : g ≠ g') : (W.setCell ⟨g', k, none⟩ v).heap[g]? = some o := (Below.heap_setCell _ _ _ _ hne).trans h
set_option maxHeartbeats 1000000 in
theorem sum_bad (s : Value) (w : World)
    (HA : Hid (∀ (w1 : World), Below w.heap.size w w1 → Calls Tryz.prog 53 #[s] w1 fun e w' => e = .returned (.bool false) ∧ Below w1.heap.size w1 w')) :
    Calls Tryz.prog 72 #[s] w fun e w' => e = ansV (V.nil, 4) ∧ Below w.heap.size w w' := by
  go_enter Tryz.func72, Tryz.ntmps72
  go_wp2_with (go_at_call 53; refine (HA.out _ ((Below.refl _ w).alloc (Nat.le_refl _) _)).mono ?_; rintro e w1 ⟨rfl, b1⟩; have z1 := at_below b1 (Nat.le_refl _) new0; obtain ⟨r0, r1, r2, r3, rf0, rf1, rf2, rf3, rs, rn⟩ := cells4 z1)
  have r := at_set4 (v0 := .int .i64 0) (v1 := .int .i64 0) (v2 := .int .i64 0) (v3 := .int .i64 0) z1
  obtain ⟨c0, c1, c2, c3, -⟩ := cells4 r
  refine bodyPost_ret (by simp [results, Tryz.results72, go_sem, c0, c1, c2, c3]; rfl) rfl ?_
  have y1 : Below w.heap.size w w1 := below_from ((Below.refl _ w).alloc (Nat.le_refl _) _) b1 (by simp)
  exact ⟨rfl, (((y1.setCell (Nat.le_refl _) _).setCell (Nat.le_refl _) _).setCell (Nat.le_refl _) _).setCell (Nat.le_refl _) _⟩
theorem okV {v : V} (h : v.ok = true) : (0 ≤ v.a ∧ v.a ≤ 1099511627776) ∧ (0 ≤ v.b ∧ v.b ≤ 1099511627776) ∧ (0 ≤ v.c ∧ v.c ≤ 1099511627776) ∧ (0 ≤ v.d ∧ v.d ≤ 1099511627776) := by
  unfold V.ok fm okI at h
  simpa using h
theorem drop_cons {l : List V} {k : Nat} {v : V} (h : l[k]? = some v) : l.drop k = v :: l.drop (k + 1) := by
  obtain ⟨hk, rfl⟩ := List.getElem?_eq_some_iff.1 h
  exact List.drop_eq_getElem_cons hk
theorem wrap_ok {x : Int} (h0 : -9223372036854775808 ≤ x) (h1 : x < 9223372036854775808) : IntKind.i64.wrap x = x := by
  rw [IntKind.wrap_i64]; omega
set_option maxHeartbeats 2000000 in
theorem sum_good (l : List V) (p o c : Nat) (w : World) (hn : l.length < 1152921504606846976) (hr : VRow w p o l) (hok : allOk l = true) :
    Calls Tryz.prog 72 #[.slice (some ⟨p, o, none⟩) l.length c] w fun e w' => e = ansV (sumF V.nil l) ∧ Below w.heap.size w w' := by
  have HA : Hid (∀ (w : World), VRow w p o l → Calls Tryz.prog 53 #[.slice (some ⟨p, o, none⟩) l.length c] w fun e w' => e = .returned (.bool true) ∧ Below w.heap.size w w') := fun w h => by have := allFormed_any l p o c w hn h; rwa [hok] at this
  have HO : Hid (allOk l = true) := hok
  generalize hL : l.length = n at *
  have HL : Hid (l.length = n) := hL
  have HR : Hid (VRow w p o l) := hr
  have HC : Hid (∀ (a b c d : Int) (w : World), Calls Tryz.prog 61 #[.agg #[.int .i64 a, .int .i64 b, .int .i64 c, .int .i64 d]] w fun e w' => e = .returned (.bool (fm a b c d)) ∧ Below w.heap.size w w') := fun a b c d w => formed_any a b c d w
  clear hL hr hok
  go_enter Tryz.func72, Tryz.ntmps72
  go_wp2_with (go_at_call 53; refine (HA.out _ (HR.out.keep ((Below.refl _ w).alloc (Nat.le_refl _) _) (Nat.le_refl _))).mono ?_; rintro e w1 ⟨rfl, b1⟩; have z1 := at_below b1 (Nat.le_refl _) new0; have y1 : Hid (Below w.heap.size w w1) := below_from ((Below.refl _ w).alloc (Nat.le_refl _) _) b1 (by simp))
  go_loopw [15] (fun x wr => ∃ (k : Nat) (s : V), x = .int .i64 k ∧ k ≤ n ∧ s.ok = true ∧ sumF s (l.drop k) = sumF V.nil l ∧ wr.heap[w.heap.size]? = some (.cells #[.int .i64 0, .int .i64 0, .int .i64 0, .int .i64 0] 40) ∧ wr.heap[w1.heap.size]? = some (.cells #[.int .i64 s.a, .int .i64 s.b, .int .i64 s.c, .int .i64 s.d] 40) ∧ Below w.heap.size w wr) (fun x _ => (n : Int).toNat - (intOf x).toNat)
  case atStart => exact ⟨0, V.nil, rfl, by omega, rfl, rfl, at_alloc z1, new0, y1.out.alloc y1.out.size _⟩
  case round =>
    have hne : w.heap.size ≠ w1.heap.size := by have := b1.size; simp at this; omega
    obtain ⟨k, s, rfl, hk, hs, hF, hres, hsum, hb⟩ := hrel
    clear b1 z1
    obtain ⟨sa, sb, sc, sd⟩ := s
    obtain ⟨r0, r1, r2, r3, rf0, rf1, rf2, rf3, rs, rn⟩ := cells4 hres
    obtain ⟨s0, s1, s2, s3, sf0, sf1, sf2, sf3, ss, sn⟩ := cells4 hsum
    have HB : Hid (Below w.heap.size w wr) := hb
    by_cases h0 : k = n
    · subst h0
      clear hb
      have hF' : sumF V.nil l = (⟨sa, sb, sc, sd⟩, 0) := by
        rw [← hF, List.drop_eq_nil_of_le (by have := HL.out; omega)]; rfl
      have HF : Hid (sumF V.nil l = (⟨sa, sb, sc, sd⟩, 0)) := hF'
      clear hF hF'
      go_wp2_with fail
      have r := at_set4 (v0 := .int .i64 sa) (v1 := .int .i64 sb) (v2 := .int .i64 sc) (v3 := .int .i64 sd) hres
      obtain ⟨c0, c1, c2, c3, -⟩ := cells4 r
      refine bodyPost_ret (by simp [results, Tryz.results72, go_sem, c0, c1, c2, c3]; rfl) rfl ?_
      exact ⟨by rw [HF.out]; rfl, (((HB.out.setCell (Nat.le_refl _) _).setCell (Nat.le_refl _) _).setCell (Nat.le_refl _) _).setCell (Nat.le_refl _) _⟩
    · have hlt : k < l.length := by have := HL.out; omega
      have hlt' : (k : Int) < (n : Int) := by omega
      have hd : decide ((k : Int) < (n : Int)) = true := decide_eq_true hlt'
      obtain ⟨v, hv⟩ : ∃ v, l[k]? = some v := ⟨l[k], List.getElem?_eq_getElem hlt⟩
      have hvok : v.ok = true := List.all_eq_true.1 HO.out _ (List.mem_of_getElem? hv)
      obtain ⟨a, b, c', d⟩ := v
      obtain ⟨c0, c1, c2, c3⟩ := (HR.out.keep hb (Nat.le_refl _)) k _ hv
      simp only [] at c0 c1 c2 c3
      clear hb
      obtain ⟨t0, e0⟩ : ∃ t, IntKind.i64.wrap (sa + a) = t := ⟨_, rfl⟩
      obtain ⟨t1, e1⟩ : ∃ t, IntKind.i64.wrap (sb + b) = t := ⟨_, rfl⟩
      obtain ⟨t2, e2⟩ : ∃ t, IntKind.i64.wrap (sc + c') = t := ⟨_, rfl⟩
      obtain ⟨t3, e3⟩ : ∃ t, IntKind.i64.wrap (sd + d) = t := ⟨_, rfl⟩
      have i0 := ix0 (.int .i64 a) (.int .i64 b) (.int .i64 c') (.int .i64 d)
      have i1 := ix1 (.int .i64 a) (.int .i64 b) (.int .i64 c') (.int .i64 d)
      have i2 := ix2 (.int .i64 a) (.int .i64 b) (.int .i64 c') (.int .i64 d)
      have i3 := ix3 (.int .i64 a) (.int .i64 b) (.int .i64 c') (.int .i64 d)
      have hsb := okV hs
      have hvb := okV hvok
      simp only [] at hsb hvb
      have q0 : t0 = sa + a := by rw [← e0, wrap_ok (by omega) (by omega)]
      have q1 : t1 = sb + b := by rw [← e1, wrap_ok (by omega) (by omega)]
      have q2 : t2 = sc + c' := by rw [← e2, wrap_ok (by omega) (by omega)]
      have q3 : t3 = sd + d := by rw [← e3, wrap_ok (by omega) (by omega)]
      have HF : Hid (sumF V.nil l = if fm t0 t1 t2 t3 then sumF ⟨t0, t1, t2, t3⟩ (l.drop (k + 1)) else (V.nil, 7)) := by
        rw [q0, q1, q2, q3, ← hF, drop_cons hv]; rfl
      have HW : Hid (w.heap.size ≤ w1.heap.size) := y1.out.size
      clear hsb hvb hs hvok q0 q1 q2 q3 hF hv
      by_cases hf : fm t0 t1 t2 t3 = true
      · have HC' : Hid (∀ (w : World), Calls Tryz.prog 61 #[.agg #[.int .i64 t0, .int .i64 t1, .int .i64 t2, .int .i64 t3]] w fun e w' => e = .returned (.bool true) ∧ Below w.heap.size w w') := fun w => by have := HC.out t0 t1 t2 t3 w; rwa [hf] at this
        clear HC
        go_wp2_with fail
        refine wp_loop_rounds 5 ?_
        repeat any_goals (rw [rounds_succ]; go_wp2_with (go_at_call 61; refine (HC'.out _).mono ?_; rintro e w2 ⟨rfl, b2⟩))
        have HF' : sumF ⟨t0, t1, t2, t3⟩ (l.drop (k + 1)) = sumF V.nil l := by rw [HF.out, if_pos hf]
        refine ⟨⟨k + 1, ⟨t0, t1, t2, t3⟩, by simp, by omega, hf, HF', ?_, ?_, ?_⟩, ?_⟩
        · exact at_below b2 (Nat.le_refl _) (at_alloc (at_other (at_other (at_other (at_other hres hne) hne) hne) hne))
        · exact at_below b2 (Nat.le_refl _) (at_alloc (at_set4 hsum))
        · have b3 := ((((HB.out.setCell (p := ⟨w1.heap.size, 0, none⟩) HW.out (.int .i64 t0)).setCell (p := ⟨w1.heap.size, 1, none⟩) HW.out (.int .i64 t1)).setCell (p := ⟨w1.heap.size, 2, none⟩) HW.out (.int .i64 t2)).setCell (p := ⟨w1.heap.size, 3, none⟩) HW.out (.int .i64 t3))
          exact below_from (b3.alloc b3.size _) b2 (by have := HB.out.size; simp; omega)
        · simp only [intOf]; omega
      · have HC' : Hid (∀ (w : World), Calls Tryz.prog 61 #[.agg #[.int .i64 t0, .int .i64 t1, .int .i64 t2, .int .i64 t3]] w fun e w' => e = .returned (.bool false) ∧ Below w.heap.size w w') := fun w => by have := HC.out t0 t1 t2 t3 w; rwa [Bool.eq_false_iff.2 hf] at this
        clear HC
        go_wp2_with fail
        refine wp_loop_rounds 5 ?_
        repeat any_goals (rw [rounds_succ]; go_wp2_with (go_at_call 61; refine (HC'.out _).mono ?_; rintro e w2 ⟨rfl, b2⟩; have z2 := at_below b2 (Nat.le_refl _) (at_alloc (at_other (at_other (at_other (at_other hres hne) hne) hne) hne)); obtain ⟨k0, k1, k2, k3, kf0, kf1, kf2, kf3, ks, kn⟩ := cells4 z2))
        have r := at_set4 (v0 := .int .i64 0) (v1 := .int .i64 0) (v2 := .int .i64 0) (v3 := .int .i64 0) z2
        obtain ⟨g0, g1, g2, g3, -⟩ := cells4 r
        refine bodyPost_ret (by simp [results, Tryz.results72, go_sem, g0, g1, g2, g3]; rfl) rfl ?_
        have b3 := ((((HB.out.setCell (p := ⟨w1.heap.size, 0, none⟩) HW.out (.int .i64 t0)).setCell (p := ⟨w1.heap.size, 1, none⟩) HW.out (.int .i64 t1)).setCell (p := ⟨w1.heap.size, 2, none⟩) HW.out (.int .i64 t2)).setCell (p := ⟨w1.heap.size, 3, none⟩) HW.out (.int .i64 t3))
        have b4 := below_from (b3.alloc b3.size _) b2 (by have := HB.out.size; simp; omega)
        exact ⟨by rw [HF.out, if_neg hf]; rfl, (((b4.setCell (Nat.le_refl _) _).setCell (Nat.le_refl _) _).setCell (Nat.le_refl _) _).setCell (Nat.le_refl _) _⟩
theorem sum_any (l : List V) (p o c : Nat) (w : World) (hn : l.length < 1152921504606846976) (hr : VRow w p o l) :
    Calls Tryz.prog 72 #[.slice (some ⟨p, o, none⟩) l.length c] w fun e w' => e = ansV (sumR l) ∧ Below w.heap.size w w' := by
  unfold sumR
  by_cases h : allOk l = true
  · rw [if_pos h]; exact sum_good l p o c w hn hr h
  · rw [if_neg h]
    refine sum_bad _ w fun w1 b => ?_
    have := allFormed_any l p o c w1 hn (hr.keep b (Nat.le_refl _))
    rwa [Bool.eq_false_iff.2 h] at this
def addR (v u : V) : V × Nat := if v.ok && u.ok then (if (v.add u).ok then (v.add u, 0) else (V.nil, 7)) else (V.nil, 4)
theorem nil_add (v : V) : V.nil.add v = v := by unfold V.nil V.add; simp
theorem sumR_two (v u : V) : sumR [v, u] = addR v u := by
  unfold sumR addR allOk
  simp only [List.all_cons, List.all_nil, Bool.and_true, sumF, nil_add]
  by_cases h : v.ok = true <;> by_cases h2 : u.ok = true <;> simp [h, h2]
theorem row2 {w : World} {p : Nat} {ty : TypeId} {v u : V} (h : w.heap[p]? = some (.cells #[.int .i64 v.a, .int .i64 v.b, .int .i64 v.c, .int .i64 v.d, .int .i64 u.a, .int .i64 u.b, .int .i64 u.c, .int .i64 u.d] ty)) : VRow w p 0 [v, u] := by
  intro i x hx
  match i, hx with
  | 0, hx =>
    obtain rfl : v = x := by simpa using hx
    exact ⟨Lib.cell_of_heap h 0, Lib.cell_of_heap h 1, Lib.cell_of_heap h 2, Lib.cell_of_heap h 3⟩
  | 1, hx =>
    obtain rfl : u = x := by simpa using hx
    exact ⟨Lib.cell_of_heap h 4, Lib.cell_of_heap h 5, Lib.cell_of_heap h 6, Lib.cell_of_heap h 7⟩
  | n + 2, hx => simp at hx
theorem new2 {w : World} {A B C : Obj} : (((w.alloc A).alloc B).alloc C).heap[w.heap.size + 1 + 1]? = some C := by
  have := new0 (w := (w.alloc A).alloc B) (o := C)
  rwa [World.size_alloc, World.size_alloc] at this
theorem new3 {w : World} {A B C D : Obj} : ((((w.alloc A).alloc B).alloc C).alloc D).heap[w.heap.size + 1 + 1 + 1]? = some D := by
  have := new0 (w := ((w.alloc A).alloc B).alloc C) (o := D)
  rwa [World.size_alloc, World.size_alloc, World.size_alloc] at this
set_option maxHeartbeats 1000000 in
theorem add_any (a b c d e f g h : Int) (w : World) :
    Calls Tryz.prog 60 #[.agg #[.int .i64 a, .int .i64 b, .int .i64 c, .int .i64 d], .agg #[.int .i64 e, .int .i64 f, .int .i64 g, .int .i64 h]] w fun r w' => r = ansV (addR ⟨a, b, c, d⟩ ⟨e, f, g, h⟩) ∧ Below w.heap.size w w' := by
  rw [← sumR_two]
  have HS : Hid (∀ (p c' : Nat) (w : World), VRow w p 0 [⟨a, b, c, d⟩, ⟨e, f, g, h⟩] → Calls Tryz.prog 72 #[.slice (some ⟨p, 0, none⟩) 2 c'] w fun r w' => r = ansV (sumR [⟨a, b, c, d⟩, ⟨e, f, g, h⟩]) ∧ Below w.heap.size w w') := fun p c' w hr => sum_any [⟨a, b, c, d⟩, ⟨e, f, g, h⟩] p 0 c' w (by simp) hr
  generalize sumR [⟨a, b, c, d⟩, ⟨e, f, g, h⟩] = r at *
  obtain ⟨⟨x, y, z, u⟩, k⟩ := r
  unfold ansV at *
  simp only [] at HS ⊢
  go_enter Tryz.func60, Tryz.ntmps60
  go_wp2_with (go_at_call 72; refine (HS.out _ _ _ (row2 new3)).mono ?_; rintro e w1 ⟨rfl, b1⟩; have z1 := at_below b1 (Nat.le_refl _) (at_alloc new2); obtain ⟨r0, r1, r2, r3, rf0, rf1, rf2, rf3, rs, rn⟩ := cells4 z1; have y1 : Hid (Below w.heap.size w w1) := below_from (by go_grown) b1 (by simp; omega))
  have r := at_set4 (v0 := .int .i64 x) (v1 := .int .i64 y) (v2 := .int .i64 z) (v3 := .int .i64 u) z1
  obtain ⟨c0, c1, c2, c3, -⟩ := cells4 r
  refine bodyPost_ret (by simp [results, Tryz.results60, go_sem, c0, c1, c2, c3]; rfl) rfl ?_
  exact ⟨rfl, (((y1.out.setCell (by simp; omega) _).setCell (by simp; omega) _).setCell (by simp; omega) _).setCell (by simp; omega) _⟩
/-- the reference refuses -/
theorem radd_bad1 (a b c d e f g h : Int) (w : World) (hf : fm a b c d = false) :
    Calls Tryz.prog 38 #[.agg #[.int .i64 a, .int .i64 b, .int .i64 c, .int .i64 d], .agg #[.int .i64 e, .int .i64 f, .int .i64 g, .int .i64 h]] w fun r w' => r = ansV (V.nil, 4) ∧ Below w.heap.size w w' := by
  have HC : Hid (∀ (w : World), Calls Tryz.prog 57 #[.agg #[.int .i64 a, .int .i64 b, .int .i64 c, .int .i64 d]] w fun e w' => e = .returned (.bool false) ∧ Below w.heap.size w w') := fun w => by have := rformed_any a b c d w; rwa [hf] at this
  clear hf
  go_enter Tryz.func38, Tryz.ntmps38
  go_wp2_with (go_at_call 57; refine (HC.out _).mono ?_; rintro e w1 ⟨rfl, b1⟩; have z1 := at_below b1 (Nat.le_refl _) new2; obtain ⟨r0, r1, r2, r3, rf0, rf1, rf2, rf3, rs, rn⟩ := cells4 z1; have y1 : Hid (Below w.heap.size w w1) := below_from (by go_grown) b1 (by simp; omega))
  have r := at_set4 (v0 := .int .i64 0) (v1 := .int .i64 0) (v2 := .int .i64 0) (v3 := .int .i64 0) z1
  obtain ⟨c0, c1, c2, c3, -⟩ := cells4 r
  refine bodyPost_ret (by simp [results, Tryz.results38, go_sem, c0, c1, c2, c3]; rfl) rfl ?_
  exact ⟨rfl, (((y1.out.setCell (by simp; omega) _).setCell (by simp; omega) _).setCell (by simp; omega) _).setCell (by simp; omega) _⟩
theorem radd_bad2 (a b c d e f g h : Int) (w : World) (ht : fm a b c d = true) (hf : fm e f g h = false) :
    Calls Tryz.prog 38 #[.agg #[.int .i64 a, .int .i64 b, .int .i64 c, .int .i64 d], .agg #[.int .i64 e, .int .i64 f, .int .i64 g, .int .i64 h]] w fun r w' => r = ansV (V.nil, 4) ∧ Below w.heap.size w w' := by
  have HC : Hid (∀ (w : World), Calls Tryz.prog 57 #[.agg #[.int .i64 a, .int .i64 b, .int .i64 c, .int .i64 d]] w fun e w' => e = .returned (.bool true) ∧ Below w.heap.size w w') := fun w => by have := rformed_any a b c d w; rwa [ht] at this
  have HD : Hid (∀ (w : World), Calls Tryz.prog 57 #[.agg #[.int .i64 e, .int .i64 f, .int .i64 g, .int .i64 h]] w fun e w' => e = .returned (.bool false) ∧ Below w.heap.size w w') := fun w => by have := rformed_any e f g h w; rwa [hf] at this
  clear hf ht
  go_enter Tryz.func38, Tryz.ntmps38
  go_wp2_with (go_at_call 57; refine (HC.out _).mono ?_)
  rintro e w1 ⟨rfl, b1⟩
  have z1 := at_below b1 (Nat.le_refl _) new2
  have z2 := at_below b1 (Nat.le_refl _) (at_alloc new1)
  have y1 : Hid (Below w.heap.size w w1) := below_from (by go_grown) b1 (by simp; omega)
  obtain ⟨k0, k1, k2, k3, kf0, kf1, kf2, kf3, ks, kn⟩ := cells4 z2
  clear b1 z2 HC
  go_wp2_with (go_at_call 57; refine (HD.out _).mono ?_; rintro e w2 ⟨rfl, b2⟩; have z3 := at_below b2 (Nat.le_refl _) z1; obtain ⟨r0, r1, r2, r3, rf0, rf1, rf2, rf3, rs, rn⟩ := cells4 z3; have y2 : Hid (Below w.heap.size w w2) := below_from y1.out b2 y1.out.size)
  have r := at_set4 (v0 := .int .i64 0) (v1 := .int .i64 0) (v2 := .int .i64 0) (v3 := .int .i64 0) z3
  obtain ⟨c0, c1, c2, c3, -⟩ := cells4 r
  refine bodyPost_ret (by simp [results, Tryz.results38, go_sem, c0, c1, c2, c3]; rfl) rfl ?_
  exact ⟨rfl, (((y2.out.setCell (by simp; omega) _).setCell (by simp; omega) _).setCell (by simp; omega) _).setCell (by simp; omega) _⟩
set_option maxHeartbeats 2000000 in
theorem radd_at (a b c d e f g h t0 t1 t2 t3 : Int) (w : World) (ht : fm a b c d = true) (hf : fm e f g h = true)
    (e0 : IntKind.i64.wrap (a + e) = t0) (e1 : IntKind.i64.wrap (b + f) = t1) (e2 : IntKind.i64.wrap (c + g) = t2) (e3 : IntKind.i64.wrap (d + h) = t3) :
    Calls Tryz.prog 38 #[.agg #[.int .i64 a, .int .i64 b, .int .i64 c, .int .i64 d], .agg #[.int .i64 e, .int .i64 f, .int .i64 g, .int .i64 h]] w fun r w' => r = ansV (if fm t0 t1 t2 t3 then (⟨t0, t1, t2, t3⟩, 0) else (V.nil, 7)) ∧ Below w.heap.size w w' := by
  have HC : Hid (∀ (w : World), Calls Tryz.prog 57 #[.agg #[.int .i64 a, .int .i64 b, .int .i64 c, .int .i64 d]] w fun e w' => e = .returned (.bool true) ∧ Below w.heap.size w w') := fun w => by have := rformed_any a b c d w; rwa [ht] at this
  have HD : Hid (∀ (w : World), Calls Tryz.prog 57 #[.agg #[.int .i64 e, .int .i64 f, .int .i64 g, .int .i64 h]] w fun e w' => e = .returned (.bool true) ∧ Below w.heap.size w w') := fun w => by have := rformed_any e f g h w; rwa [hf] at this
  have HT : Hid (∀ (w : World), Calls Tryz.prog 57 #[.agg #[.int .i64 t0, .int .i64 t1, .int .i64 t2, .int .i64 t3]] w fun e w' => e = .returned (.bool (fm t0 t1 t2 t3)) ∧ Below w.heap.size w w') := fun w => rformed_any t0 t1 t2 t3 w
  generalize fm t0 t1 t2 t3 = bt at *
  clear hf ht
  go_enter Tryz.func38, Tryz.ntmps38
  go_wp2_with (go_at_call 57; refine (HC.out _).mono ?_)
  rintro e w1 ⟨rfl, b1⟩
  have z1 := at_below b1 (Nat.le_refl _) new2
  have z2 := at_below b1 (Nat.le_refl _) (at_alloc new1)
  have z3 := at_below b1 (Nat.le_refl _) (at_alloc (at_alloc new0))
  have y1 : Hid (Below w.heap.size w w1) := below_from (by go_grown) b1 (by simp; omega)
  obtain ⟨k0, k1, k2, k3, kf0, kf1, kf2, kf3, ks, kn⟩ := cells4 z2
  clear b1 HC
  go_wp2_with (go_at_call 57; refine (HD.out _).mono ?_)
  rintro e w2 ⟨rfl, b2⟩
  have z1 := at_below b2 (Nat.le_refl _) z1
  have z2 := at_below b2 (Nat.le_refl _) z2
  have z3 := at_below b2 (Nat.le_refl _) z3
  have y2 : Hid (Below w.heap.size w w2) := below_from y1.out b2 y1.out.size
  clear k0 k1 k2 k3 kf0 kf1 kf2 kf3 ks kn b2 y1 HD
  obtain ⟨k0, k1, k2, k3, kf0, kf1, kf2, kf3, ks, kn⟩ := cells4 z2
  obtain ⟨l0, l1, l2, l3, lf0, lf1, lf2, lf3, ls, ln⟩ := cells4 z3
  obtain ⟨r0, r1, r2, r3, rf0, rf1, rf2, rf3, rs, rn⟩ := cells4 z1
  go_wp2_with fail
  refine wp_loop_rounds 5 ?_
  rw [rounds_succ]
  go_wp2_with fail
  go_region
  go_wp2_with fail
  rw [rounds_succ]
  go_wp2_with fail
  go_region
  go_wp2_with fail
  rw [rounds_succ]
  go_wp2_with fail
  go_region
  go_wp2_with fail
  rw [rounds_succ]
  go_wp2_with fail
  go_region
  go_wp2_with fail
  rw [rounds_succ]
  go_wp2_with (go_at_call 57; refine (HT.out _).mono ?_)
  rintro e w3 ⟨rfl, b3⟩
  have x1 := at_below b3 (Nat.le_refl _) (at_drew (at_drew (at_drew (at_drew (at_alloc z1)))))
  have x4 := at_below b3 (Nat.le_refl _) (at_drew (at_drew (at_drew (at_drew new0))))
  have y3 : Hid (Below w.heap.size w w3) := below_from (y2.out.alloc y2.out.size _).drew.drew.drew.drew b3 (by have := y2.out.size; simp; omega)
  clear k0 k1 k2 k3 kf0 kf1 kf2 kf3 ks kn l0 l1 l2 l3 lf0 lf1 lf2 lf3 ls ln r0 r1 r2 r3 rf0 rf1 rf2 rf3 rs rn b3 HT z1 z2 z3 e0 e1 e2 e3
  obtain ⟨k0, k1, k2, k3, kf0, kf1, kf2, kf3, ks, kn⟩ := cells4 x4
  obtain ⟨r0, r1, r2, r3, rf0, rf1, rf2, rf3, rs, rn⟩ := cells4 x1
  cases bt
  · go_wp2_with fail
    have r := at_set4 (v0 := .int .i64 0) (v1 := .int .i64 0) (v2 := .int .i64 0) (v3 := .int .i64 0) x1
    obtain ⟨c0, c1, c2, c3, -⟩ := cells4 r
    refine bodyPost_ret (by simp [results, Tryz.results38, go_sem, c0, c1, c2, c3]; rfl) rfl ?_
    exact ⟨rfl, (((y3.out.setCell (by simp; omega) _).setCell (by simp; omega) _).setCell (by simp; omega) _).setCell (by simp; omega) _⟩
  · go_wp2_with fail
    have r := at_set4 (v0 := .int .i64 t0) (v1 := .int .i64 t1) (v2 := .int .i64 t2) (v3 := .int .i64 t3) x1
    obtain ⟨c0, c1, c2, c3, -⟩ := cells4 r
    refine bodyPost_ret (by simp [results, Tryz.results38, go_sem, c0, c1, c2, c3]; rfl) rfl ?_
    exact ⟨rfl, (((y3.out.setCell (by simp; omega) _).setCell (by simp; omega) _).setCell (by simp; omega) _).setCell (by simp; omega) _⟩
theorem radd_any (a b c d e f g h : Int) (w : World) :
    Calls Tryz.prog 38 #[.agg #[.int .i64 a, .int .i64 b, .int .i64 c, .int .i64 d], .agg #[.int .i64 e, .int .i64 f, .int .i64 g, .int .i64 h]] w fun r w' => r = ansV (addR ⟨a, b, c, d⟩ ⟨e, f, g, h⟩) ∧ Below w.heap.size w w' := by
  unfold addR
  by_cases h1 : fm a b c d = true
  · by_cases h2 : fm e f g h = true
    · have o1 := okV (v := ⟨a, b, c, d⟩) h1
      have o2 := okV (v := ⟨e, f, g, h⟩) h2
      simp only [] at o1 o2
      have := radd_at a b c d e f g h _ _ _ _ w h1 h2 (wrap_ok (by omega) (by omega)) (wrap_ok (by omega) (by omega)) (wrap_ok (by omega) (by omega)) (wrap_ok (by omega) (by omega))
      rw [if_pos (by simp [V.ok, h1, h2])]
      exact this
    · rw [if_neg (by simp [V.ok, h2])]
      exact radd_bad2 a b c d e f g h w h1 (Bool.eq_false_iff.2 h2)
  · rw [if_neg (by simp [V.ok, h1])]
    exact radd_bad1 a b c d e f g h w (Bool.eq_false_iff.2 h1)
theorem cells2 : Tryz.prog.cellsOf 2 = 1 := by kernel_rfl
theorem part0 (x y z u : Value) (w : World) : (part 2 #[x, y, z, u] 0).run Tryz.prog w = .ok x w := by kernel_rfl
theorem part1 (x y z u : Value) (w : World) : (part 2 #[x, y, z, u] 1).run Tryz.prog w = .ok y w := by kernel_rfl
theorem part2 (x y z u : Value) (w : World) : (part 2 #[x, y, z, u] 2).run Tryz.prog w = .ok z w := by kernel_rfl
theorem part3 (x y z u : Value) (w : World) : (part 2 #[x, y, z, u] 3).run Tryz.prog w = .ok u w := by kernel_rfl
theorem eqi (a e : Int) (w : World) : (Op.equalIn 9999 2 (.int .i64 a) (.int .i64 e)).run Tryz.prog w = .ok (a == e) w := run_equalIn_int w 9998 2 .i64 .i64 a e Tryz.underlying2
theorem eq4 (a b c d e f g h : Int) (w : World) :
    (Op.equalIn 10000 40 (.agg #[.int .i64 a, .int .i64 b, .int .i64 c, .int .i64 d]) (.agg #[.int .i64 e, .int .i64 f, .int .i64 g, .int .i64 h])).run Tryz.prog w = .ok (a == e && (b == f && (c == g && d == h))) w := by
  rw [run_equalIn_array w 9999 _ _ Tryz.underlying40 (info_of_underlying Tryz.underlying2).choose_spec, cells2]
  rw [show List.range 4 = [0, 1, 2, 3] from rfl]
  by_cases h1 : a = e <;> by_cases h2 : b = f <;> by_cases h3 : c = g <;> by_cases h4 : d = h <;> simp [Op.eqItems, part0, part1, part2, part3, eqi, h1, h2, h3, h4]

end Go.Proofs.YtjgibngnjlciaaaGreat
