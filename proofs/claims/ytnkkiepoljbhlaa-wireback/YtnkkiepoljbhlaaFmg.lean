/-
  formed and the reference's Formed of a start (kind 7).
-/
import Derived.Test.YtnkkiepoljbhlaaFme
import Derived.Test.YtnkkiepoljbhlaaFmf
namespace Go.Proofs.Ytnkkiepoljbhlaa
open Go.RowKit

theorem c27c {w : World} {g : Nat} {v0 v1 v2 v3 v4 v5 v6 v7 v8 v9 v10 v11 v12 v13 v14 v15 v16 v17 v18 v19 v20 v21 v22 v23 v24 v25 v26 : Value} {ty : TypeId} (h : w.heap[g]? = some (.cells #[v0, v1, v2, v3, v4, v5, v6, v7, v8, v9, v10, v11, v12, v13, v14, v15, v16, v17, v18, v19, v20, v21, v22, v23, v24, v25, v26] ty)) :
    w.cell? ⟨g, 0, none⟩ = some v0 ∧ w.cell? ⟨g, 24, none⟩ = some v24 ∧ w.cell? ⟨g, 25, none⟩ = some v25 :=
  ⟨Lib.cell_of_heap h 0, Lib.cell_of_heap h 24, Lib.cell_of_heap h 25⟩
set_option maxHeartbeats 400000 in
theorem members_few (a : Option Addr) (n c : Nat) (v : Value) (w : World) (h : (n : Int) < 1) :
    Calls Try.prog 45 #[.slice a n c, v] w fun e w' => e = .returned (.bool false) ∧ Below w.heap.size w w' := by
  go_enter Try.func45, Try.ntmps45
  go_wp2_with fail
  go_ret
  exact ⟨rfl, Below.refl _ _⟩
set_option maxHeartbeats 400000 in
theorem members_many (a : Option Addr) (n c : Nat) (v : Value) (w : World) (h0 : ¬ (n : Int) < 1) (h : (6 : Int) < n) :
    Calls Try.prog 45 #[.slice a n c, v] w fun e w' => e = .returned (.bool false) ∧ Below w.heap.size w w' := by
  go_enter Try.func45, Try.ntmps45
  go_wp2_with fail
  go_ret
  exact ⟨rfl, Below.refl _ _⟩
/-- a list of one to six names -/
def nms (L : List ByteArray) : Bool := decide (1 ≤ L.length ∧ L.length ≤ 6) && L.all Txt.name
theorem members_any (L : List ByteArray) (s : SL) (w : World) (h : SLh w s L.length (textsV L)) (hs : ∀ t ∈ L, t.size ≤ 9223372036854775000) :
    Calls Try.prog 45 #[.slice s.a s.n s.c, .func (.func 40) #[] #[]] w fun e w' => e = .returned (.bool (nms L)) ∧ Below w.heap.size w w' := by
  obtain ⟨h1, h2, h3⟩ := h
  rw [h2]
  unfold nms
  by_cases hl : L.length < 1
  · have e : decide (1 ≤ L.length ∧ L.length ≤ 6) = false := by simp; omega
    rw [e]; exact members_few s.a L.length s.c _ w (by omega)
  · by_cases hm : 6 < L.length
    · have e : decide (1 ≤ L.length ∧ L.length ≤ 6) = false := by simp; omega
      rw [e]; exact members_many s.a L.length s.c _ w (by omega) (by omega)
    · have e : decide (1 ≤ L.length ∧ L.length ≤ 6) = true := by simp; omega
      rw [e, Bool.true_and]
      rcases h1 with h1 | ⟨g, o, ha, h1⟩
      · exfalso; have := congrArg List.length h1; simp [textsV] at this; rw [this] at hl; simp at hl
      · rw [ha]; exact members_at L g o s.c L.length w rfl (by omega) (by omega) hs h1

set_option maxHeartbeats 1000000 in
set_option maxRecDepth 100000 in
theorem formed7 (i : Int) (s : SL) (x y : Bool) (w : World) (hx : wi i 1 100 = x)
    (H2 : Hid (∀ W, Below w.heap.size w W → Calls Try.prog 45 #[.slice s.a s.n s.c, .func (.func 40) #[] #[]] W fun e w' => e = .returned (.bool y) ∧ Below W.heap.size W w')) :
    Calls Try.prog 21 #[.iface 70 (.agg #[.int .i64 i, .slice s.a s.n s.c])] w fun e w' => e = .returned (.bool (x && y)) ∧ Below w.heap.size w w' := by
  have H1 : Hid (∀ w, Calls Try.prog 44 #[.int .i64 i] w fun e w' => e = .returned (.bool x) ∧ Below w.heap.size w w') := fun w => hx ▸ jnumber_any i w
  clear hx
  have a1 := assert_no (t := 70) (x := 35) (v := .agg #[.int .i64 i, .slice s.a s.n s.c]) (by simp) Try.underlying61 Try.zeroValue61
  have a2 := assert_no (t := 70) (x := 35) (v := .agg #[.int .i64 i, .slice s.a s.n s.c]) (by simp) Try.underlying63 Try.zeroValue63
  have a3 := assert_no (t := 70) (x := 35) (v := .agg #[.int .i64 i, .slice s.a s.n s.c]) (by simp) Try.underlying57 Try.zeroValue57
  have a4 := assert_no (t := 70) (x := 35) (v := .agg #[.int .i64 i, .slice s.a s.n s.c]) (by simp) Try.underlying64 Try.zeroValue64
  have a5 := assert_no (t := 70) (x := 35) (v := .agg #[.int .i64 i, .slice s.a s.n s.c]) (by simp) Try.underlying66 Try.zeroValue66
  have a6 := assert_no (t := 70) (x := 35) (v := .agg #[.int .i64 i, .slice s.a s.n s.c]) (by simp) Try.underlying68 Try.zeroValue68
  have a7 := assert_yes (x := 35) (v := .agg #[.int .i64 i, .slice s.a s.n s.c]) Try.underlying70
  go_enter Try.func21, Try.ntmps21
  go_upto_region 22 with fail
  have P1 : Hid _ := new0 (w := w) (o := .cells #[.int .i64 i, .slice s.a s.n s.c] 70)
  have y1 : Hid (Below w.heap.size w (w.alloc (.cells #[.int .i64 i, .slice s.a s.n s.c] 70))) := (Below.refl _ w).alloc (Nat.le_refl _) _
  generalize w.alloc (.cells #[.int .i64 i, .slice s.a s.n s.c] 70) = W at *
  have e0 := Lib.cell_of_heap P1.out 0
  go_wp2_with (go_at_call 44; refine (H1.out _).mono ?_)
  rintro e w1 ⟨rfl, b1⟩
  have P2 : Hid _ := at_below b1 (Nat.le_refl _) P1.out
  have y2 : Hid _ := below_from y1.out b1 y1.out.size
  clear b1 e0
  have e1 := Lib.cell_of_heap P2.out 1
  cases x with
  | false =>
    go_wp2_with fail
    go_ret
    exact ⟨rfl, y2.out⟩
  | true =>
    go_wp2_with (go_at_call 45; refine (H2.out _ y2.out).mono ?_)
    rintro e w2 ⟨rfl, b2⟩
    go_wp2_with fail
    go_ret
    exact ⟨rfl, below_from y2.out b2 y2.out.size⟩

end Go.Proofs.Ytnkkiepoljbhlaa
