/-
  The contract of awake.
-/
import Derived.Test.YtefidmjekjhdaaaWalkH
import Derived.Test.YtefidmjekjhdaaaNameW
import Derived.Test.YtefidmjekjhdaaaNum
import Derived.Laws.ResultCell
import Derived.Deep.WholeRow
import Derived.WalkSmall
namespace Go.Proofs.Ytefidmjekjhdaaa
open Go.RowKit

theorem assert_yes {t x : TypeId} {v : Value} {fs} (hu : Try.prog.underlying t = some (.struct fs)) : ∀ w, (Instr.typeAssert (.iface t v) x t true).run Try.prog w = .ok (.tuple #[v, .bool true]) w := fun w => by
  simp [Instr.typeAssert, run_underlying hu]
theorem assert_no {t u x : TypeId} {v z : Value} {fs} (hne : (t = u) = False) (hu : Try.prog.underlying u = some (.struct fs)) (hz : ∀ w, (zeroValue u).run Try.prog w = .ok z w) : ∀ w, (Instr.typeAssert (.iface t v) x u true).run Try.prog w = .ok (.tuple #[z, .bool false]) w := fun w => by
  simp [Instr.typeAssert, run_underlying hu, hne, hz, Result.andThen]

/-- a record of a kind as plain data -/
def plainV (k : Int) (s : ByteArray) : Array Value := #[.int .i64 k, .string ⟨#[]⟩, .int .i64 0, .int .i64 0, .int .i64 0, .int .i64 0, .int .i64 0, .string s, .int .i64 0, .int .i64 0, .int .i64 0, .int .i64 0, .int .i64 0, .int .i64 0, .string ⟨#[]⟩, .int .i64 0, .int .i64 0, .slice none 0 0, .slice none 0 0, .int .i64 0, .int .i64 0, .slice none 0 0, .int .i64 0, .slice none 0 0, .int .i64 0, .slice none 0 0, .int .i64 0]

theorem size63 : (Try.prog.info? 63).map (·.size) = some 27 := by kernel_rfl
theorem plain_all (k : Int) (s : ByteArray) : (plainV k s).all (·.oneCell') = true := by kernel_rfl
theorem build_row {ops : Array Oper} {rest : List Oper} {o : Oper} {a : Act} {w : World} {Q : Exit → Act → World → Prop} (hg : o.guard = none) (t : TypeId) (parts : Array (Nat × Operand)) (ho : o.op = .build t parts) (vals : List (Nat × Value)) (c : Array Value)
    (he : (parts.map fun (i, x) => (i, a.eval x)).toList = vals) (hb : Try.prog.built t vals = some c) (h : wpList Try.prog ops Q rest (a.put o.dst (.agg c)) w) : wpList Try.prog ops Q (o :: rest) a w := by
  refine wpList_build hg t parts ho ?_ ?_
  · rw [he, hb]; rfl
  · rw [he, hb, Option.getD_some]; exact h
theorem built_beat (s : ByteArray) : Try.prog.built 63 [(0, .int .i64 3), (2, .string s)] = some (plainV 3 s) := by kernel_rfl
theorem built_ticked : Try.prog.built 63 [(0, .int .i64 11)] = some (plainV 11 ⟨#[]⟩) := by kernel_rfl
theorem Row.set63 {w : World} {g : Nat} {c c' : Array Value} {t : TypeId} (h : w.heap[g]? = some (.cells c t (0, 0))) : (w.setRow g c').heap[g]? = some (.cells c' t (0, 0)) := setRow_heap w g c _ t _ h
theorem below_setRow {B : Nat} {a w : World} {g : Nat} {c : Array Value} (h : Below B a w) (hg : B ≤ g) : Below B a (w.setRow g c) :=
  ⟨h.os, h.tape, h.output, by simpa using h.size, fun k hk => (setRow_other w g k _ (by omega)).trans (h.block k hk)⟩

set_option maxHeartbeats 1000000 in
set_option maxRecDepth 100000 in
theorem plainly_beat (s : ByteArray) (w : World) :
    Calls Try.prog 25 #[.iface 36 (.agg #[.string s])] w fun e w' => e = .returned (.agg (plainV 3 s)) ∧ Below w.heap.size w w' := by
  have a1 := assert_no (t := 36) (x := 48) (v := .agg #[.string s]) (by simp) Try.underlying66 Try.zeroValue66
  have a2 := assert_no (t := 36) (x := 48) (v := .agg #[.string s]) (by simp) Try.underlying69 Try.zeroValue69
  have a3 := assert_yes (x := 48) (v := .agg #[.string s]) Try.underlying36
  go_enter Try.func25, Try.ntmps25
  go_upto_region 10 with fail
  iterate 7 go_step
  refine build_row rfl 63 _ rfl [(0, .int .i64 3), (2, .string s)] _ (by simp [Act.eval]) (built_beat s) ?_
  generalize hP : plainV 3 s = P
  have hsz : (Try.prog.info? 63).map (·.size) = some P.size := by rw [← hP]; exact size63
  have hsz2 : 27 = P.size := by rw [← hP]; rfl
  have hall : P.all (·.oneCell') = true := by rw [← hP]; exact plain_all _ _
  refine wpList_store_row rfl 63 _ _ rfl w.heap.size P rfl rfl 63 _ (at_alloc new0) hsz hsz2 hall ?_
  go_wp2_with fail
  refine bodyPost_ret (results_cell_row Try.results25 _ _ w.heap.size 63 P (0, 0) _ rfl (Row.set63 (at_alloc new0)) Try.underlying63 rfl hsz) rfl ?_
  refine ⟨by rw [hP], below_setRow ?_ (Nat.le_refl _)⟩
  go_grown

set_option maxHeartbeats 1000000 in
set_option maxRecDepth 100000 in
theorem plainly_ticked (w : World) :
    Calls Try.prog 25 #[.iface 39 (.agg #[])] w fun e w' => e = .returned (.agg (plainV 11 ⟨#[]⟩)) ∧ Below w.heap.size w w' := by
  have a1 := assert_no (t := 39) (x := 48) (v := .agg #[]) (by simp) Try.underlying66 Try.zeroValue66
  have a2 := assert_no (t := 39) (x := 48) (v := .agg #[]) (by simp) Try.underlying69 Try.zeroValue69
  have a3 := assert_no (t := 39) (x := 48) (v := .agg #[]) (by simp) Try.underlying36 Try.zeroValue36
  have a4 := assert_no (t := 39) (x := 48) (v := .agg #[]) (by simp) Try.underlying73 Try.zeroValue73
  have a5 := assert_no (t := 39) (x := 48) (v := .agg #[]) (by simp) Try.underlying75 Try.zeroValue75
  have a6 := assert_no (t := 39) (x := 48) (v := .agg #[]) (by simp) Try.underlying78 Try.zeroValue78
  have a7 := assert_no (t := 39) (x := 48) (v := .agg #[]) (by simp) Try.underlying81 Try.zeroValue81
  have a8 := assert_no (t := 39) (x := 48) (v := .agg #[]) (by simp) Try.underlying83 Try.zeroValue83
  have a9 := assert_no (t := 39) (x := 48) (v := .agg #[]) (by simp) Try.underlying85 Try.zeroValue85
  have a10 := assert_no (t := 39) (x := 48) (v := .agg #[]) (by simp) Try.underlying87 Try.zeroValue87
  have a11 := assert_yes (x := 48) (v := .agg #[]) Try.underlying39
  go_enter Try.func25, Try.ntmps25
  go_upto_region 34 with fail
  iterate 1 go_step
  refine build_row rfl 63 _ rfl [(0, .int .i64 11)] _ (by simp [Act.eval]) built_ticked ?_
  generalize hP : plainV 11 ⟨#[]⟩ = P
  have hsz : (Try.prog.info? 63).map (·.size) = some P.size := by rw [← hP]; exact size63
  have hsz2 : 27 = P.size := by rw [← hP]; rfl
  have hall : P.all (·.oneCell') = true := by rw [← hP]; exact plain_all _ _
  refine wpList_store_row rfl 63 _ _ rfl w.heap.size P rfl rfl 63 _ (at_alloc new0) hsz hsz2 hall ?_
  go_wp2_with fail
  refine bodyPost_ret (results_cell_row Try.results25 _ _ w.heap.size 63 P (0, 0) _ rfl (Row.set63 (at_alloc new0)) Try.underlying63 rfl hsz) rfl ?_
  refine ⟨by rw [hP], below_setRow ?_ (Nat.le_refl _)⟩
  go_grown

set_option maxHeartbeats 1000000 in
set_option maxRecDepth 100000 in
theorem make_beat (s : ByteArray) (w : World) :
    Calls Try.prog 24 #[.agg (plainV 3 s)] w fun e w' => e = .returned (.iface 36 (.agg #[.string s])) ∧ Below w.heap.size w w' := by
  unfold plainV
  go_enter Try.func24, Try.ntmps24
  go_wp2_with fail
  go_ret
  exact ⟨rfl, by go_grown⟩
set_option maxHeartbeats 1000000 in
set_option maxRecDepth 100000 in
theorem make_ticked (w : World) :
    Calls Try.prog 24 #[.agg (plainV 11 ⟨#[]⟩)] w fun e w' => e = .returned (.iface 39 (.agg #[])) ∧ Below w.heap.size w w' := by
  unfold plainV
  go_enter Try.func24, Try.ntmps24
  go_wp2_with fail
  go_ret
  exact ⟨rfl, by go_grown⟩

set_option maxHeartbeats 400000 in
theorem remade_at (v u r : Value) (w : World)
    (H1 : Hid (∀ w, Calls Try.prog 25 #[v] w fun e w' => e = .returned u ∧ Below w.heap.size w w'))
    (H2 : Hid (∀ w, Calls Try.prog 24 #[u] w fun e w' => e = .returned r ∧ Below w.heap.size w w')) :
    Calls Try.prog 20 #[v] w fun e w' => e = .returned r ∧ Below w.heap.size w w' := by
  go_enter Try.func20, Try.ntmps20
  go_wp2_with (first | (go_at_call 25; refine (H1.out _).mono ?_; rintro e w1 ⟨rfl, b1⟩) | (go_at_call 24; refine (H2.out _).mono ?_; rintro e w2 ⟨rfl, b2⟩))
  go_ret
  exact ⟨rfl, below_from b1 b2 b1.size⟩

set_option maxHeartbeats 1000000 in
set_option maxRecDepth 100000 in
theorem formed_beat (s : ByteArray) (w : World) (hs : s.size ≤ 9223372036854775000) (h : Hid (Txt.name s = true)) :
    Calls Try.prog 21 #[.iface 36 (.agg #[.string s])] w fun e w' => e = .returned (.bool true) ∧ Below w.heap.size w w' := by
  have a1 := assert_no (t := 36) (x := 48) (v := .agg #[.string s]) (by simp) Try.underlying66 Try.zeroValue66
  have a2 := assert_no (t := 36) (x := 48) (v := .agg #[.string s]) (by simp) Try.underlying69 Try.zeroValue69
  have a3 := assert_yes (x := 48) (v := .agg #[.string s]) Try.underlying36
  go_enter Try.func21, Try.ntmps21
  go_wp2_with (go_at_call 27; refine (name_is s true _ hs h.out).mono ?_; rintro e w1 ⟨rfl, b1⟩)
  go_ret
  refine ⟨rfl, below_from ?_ b1 (by simp)⟩
  go_grown
set_option maxHeartbeats 1000000 in
set_option maxRecDepth 100000 in
theorem formed_ticked (w : World) :
    Calls Try.prog 21 #[.iface 39 (.agg #[])] w fun e w' => e = .returned (.bool true) ∧ Below w.heap.size w w' := by
  have a1 := assert_no (t := 39) (x := 48) (v := .agg #[]) (by simp) Try.underlying66 Try.zeroValue66
  have a2 := assert_no (t := 39) (x := 48) (v := .agg #[]) (by simp) Try.underlying69 Try.zeroValue69
  have a3 := assert_no (t := 39) (x := 48) (v := .agg #[]) (by simp) Try.underlying36 Try.zeroValue36
  have a4 := assert_no (t := 39) (x := 48) (v := .agg #[]) (by simp) Try.underlying73 Try.zeroValue73
  have a5 := assert_no (t := 39) (x := 48) (v := .agg #[]) (by simp) Try.underlying75 Try.zeroValue75
  have a6 := assert_no (t := 39) (x := 48) (v := .agg #[]) (by simp) Try.underlying78 Try.zeroValue78
  have a7 := assert_no (t := 39) (x := 48) (v := .agg #[]) (by simp) Try.underlying81 Try.zeroValue81
  have a8 := assert_no (t := 39) (x := 48) (v := .agg #[]) (by simp) Try.underlying83 Try.zeroValue83
  have a9 := assert_no (t := 39) (x := 48) (v := .agg #[]) (by simp) Try.underlying85 Try.zeroValue85
  have a10 := assert_no (t := 39) (x := 48) (v := .agg #[]) (by simp) Try.underlying87 Try.zeroValue87
  have a11 := assert_yes (x := 48) (v := .agg #[]) Try.underlying39
  go_enter Try.func21, Try.ntmps21
  go_wp2_with fail
  go_ret
  exact ⟨rfl, by go_grown⟩

set_option maxHeartbeats 400000 in
theorem kind_beat (s : ByteArray) (w : World) :
    Calls Try.prog 61 #[.agg #[.string s]] w fun e w' => e = .returned (.int .i64 3) ∧ Below w.heap.size w w' := by
  go_enter Try.func61, Try.ntmps61
  go_wp2_with fail
  go_ret
  exact ⟨rfl, by go_grown⟩

set_option maxHeartbeats 1000000 in
set_option maxRecDepth 100000 in
theorem bytes_beat (w : World) :
    Calls Try.prog 22 #[.iface 36 (.agg #[.string ⟨#[97]⟩])] w fun e w' => ∃ q c, e = .returned (.slice q 3 c) ∧ Own w' w.heap.size (.slice q 3 c) [3, 1, 97] ∧ Below w.heap.size w w' := by
  have HT : Hid (∀ (q : Option Addr) (c : Nat) (W : World), Own W w.heap.size (.slice q 1 c) [3] → w.heap.size ≤ W.heap.size → Calls Try.prog 34 #[.slice q 1 c, .string ⟨#[97]⟩] W fun e w' => ∃ q' c', e = .returned (.slice q' 3 c') ∧ Own w' w.heap.size (.slice q' 3 c') [3, 1, 97] ∧ Below w.heap.size W w') := fun q c W h hB => by
    refine (addText_any w.heap.size 1 q c [3] ⟨#[97]⟩ W h hB (by decide) (by decide)).mono ?_
    rintro e w' ⟨q', k', c', rfl, h1, h2⟩
    obtain rfl := (own_parts h1).2.2
    exact ⟨q', c', rfl, h1, h2⟩
  generalize hS : (⟨#[97]⟩ : ByteArray) = S at *
  have a1 := assert_no (t := 36) (x := 48) (v := .agg #[.string S]) (by simp) Try.underlying66 Try.zeroValue66
  have a2 := assert_no (t := 36) (x := 48) (v := .agg #[.string S]) (by simp) Try.underlying69 Try.zeroValue69
  have a3 := assert_yes (x := 48) (v := .agg #[.string S]) Try.underlying36
  clear hS
  go_enter Try.func22, Try.ntmps22
  go_wp2_with (go_at_call 61; refine (kind_beat S _).mono ?_; rintro e w1 ⟨rfl, b1⟩)
  have B1 : Hid (Below w.heap.size w w1) := b1
  clear b1
  have O1 : Hid (Own ((w1.alloc (.cells #[.int .u8 3] 5)).alloc (.cells #[.string S] 36)) w.heap.size (.slice (some ⟨w1.heap.size, 0, none⟩) 1 1) [3]) := (own_one (x := 3) B1.out.size).keep ((Below.refl _ _).alloc (Nat.le_refl _) _)
  go_wp2_with (go_at_call 34; refine (HT.out _ _ _ O1.out (by have := B1.out.size; simp; omega)).mono ?_; rintro e w2 ⟨q2, c2, rfl, o2, b2⟩)
  go_ret
  refine ⟨q2, c2, rfl, o2, B1.out.trans (Below.trans ?_ b2)⟩
  exact ((Below.refl _ w1).alloc B1.out.size _).alloc (by have := B1.out.size; simp; omega) _

set_option maxHeartbeats 400000 in
theorem encode_beat (w : World) :
    Calls Try.prog 12 #[.iface 36 (.agg #[.string ⟨#[97]⟩])] w fun e w' => ∃ q c, e = .returned (.tuple #[.slice q 3 c, .int .i64 0]) ∧ Own w' w.heap.size (.slice q 3 c) [3, 1, 97] ∧ Below w.heap.size w w' := by
  have H20 : Hid (∀ w, Calls Try.prog 20 #[.iface 36 (.agg #[.string ⟨#[97]⟩])] w fun e w' => e = .returned (.iface 36 (.agg #[.string ⟨#[97]⟩])) ∧ Below w.heap.size w w') := fun w => remade_at _ _ _ w (fun w => plainly_beat _ w) (fun w => make_beat _ w)
  have H21 : Hid (∀ w, Calls Try.prog 21 #[.iface 36 (.agg #[.string ⟨#[97]⟩])] w fun e w' => e = .returned (.bool true) ∧ Below w.heap.size w w') := fun w => formed_beat _ w (by decide) (by unfold Hid; decide)
  have H22 : Hid (∀ w, Calls Try.prog 22 #[.iface 36 (.agg #[.string ⟨#[97]⟩])] w fun e w' => ∃ q c, e = .returned (.slice q 3 c) ∧ Own w' w.heap.size (.slice q 3 c) [3, 1, 97] ∧ Below w.heap.size w w') := fun w => bytes_beat w
  generalize hS : (⟨#[97]⟩ : ByteArray) = S at *
  clear hS
  go_enter Try.func12, Try.ntmps12
  go_wp2_with (first
    | (go_at_call 20; refine (H20.out _).mono ?_; rintro e w1 ⟨rfl, b1⟩)
    | (go_at_call 21; refine (H21.out _).mono ?_; rintro e w2 ⟨rfl, b2⟩)
    | (go_at_call 22; refine (H22.out _).mono ?_; rintro e w3 ⟨q3, c3, rfl, o3, b3⟩))
  go_ret2
  have y2 := below_from b1 b2 b1.size
  exact ⟨q3, c3, rfl, o3.low y2.size, below_from y2 b3 y2.size⟩

set_option maxHeartbeats 400000 in
theorem formed_tick (w : World) :
    Calls Try.prog 13 #[.iface 39 (.agg #[])] w fun e w' => e = .returned (.bool true) ∧ Below w.heap.size w w' := by
  have H20 : Hid (∀ w, Calls Try.prog 20 #[.iface 39 (.agg #[])] w fun e w' => e = .returned (.iface 39 (.agg #[])) ∧ Below w.heap.size w w') := fun w => remade_at _ _ _ w (fun w => plainly_ticked w) (fun w => make_ticked w)
  have H21 : Hid (∀ w, Calls Try.prog 21 #[.iface 39 (.agg #[])] w fun e w' => e = .returned (.bool true) ∧ Below w.heap.size w w') := fun w => formed_ticked w
  go_enter Try.func13, Try.ntmps13
  go_wp2_with (first
    | (go_at_call 20; refine (H20.out _).mono ?_; rintro e w1 ⟨rfl, b1⟩)
    | (go_at_call 21; refine (H21.out _).mono ?_; rintro e w2 ⟨rfl, b2⟩))
  go_ret
  exact ⟨rfl, below_from b1 b2 b1.size⟩

theorem lies_three {w : World} : Lies (w.alloc (.cells #[.int .u8 3, .int .u8 1, .int .u8 97] 5)) (some ⟨w.heap.size, 0, none⟩) [3, 1, 97] := by
  refine .inr ⟨_, 0, rfl, fun k x hx => ?_⟩
  rw [Nat.zero_add, cell_of_row _ _ k _ 5 (0, 0) new0]
  match k, hx with
  | 0, hx | 1, hx | 2, hx => simp at hx; subst hx; rfl

set_option maxHeartbeats 400000 in
theorem awake_any (w : World) :
    Calls Try.prog 6 #[] w fun e w' => e = .returned (.bool true) ∧ Below w.heap.size w w' := by
  have H12 : Hid (∀ w, Calls Try.prog 12 #[.iface 36 (.agg #[.string ⟨#[97]⟩])] w fun e w' => ∃ q c, e = .returned (.tuple #[.slice q 3 c, .int .i64 0]) ∧ Own w' w.heap.size (.slice q 3 c) [3, 1, 97] ∧ Below w.heap.size w w') := fun w => encode_beat w
  have H13 : Hid (∀ w, Calls Try.prog 13 #[.iface 39 (.agg #[])] w fun e w' => e = .returned (.bool true) ∧ Below w.heap.size w w') := fun w => formed_tick w
  have H11 : Hid (∀ q c w0 w, Own w0 0 (.slice q 3 c) [3, 1, 97] → Below w0.heap.size w0 w → ∀ g, Lies w (some ⟨g, 0, none⟩) [3, 1, 97] → Calls Try.prog 11 #[.slice q 3 c, .slice (some ⟨g, 0, none⟩) 3 3] w fun e w' => e = .returned (.bool true) ∧ Below w.heap.size w w') := fun q c w0 w h b g hg => by
    have := same_any [3, 1, 97] [3, 1, 97] q (some ⟨g, 0, none⟩) c 3 w (by decide) (own_parts (h.keep b)).1 hg
    simpa using this
  go_enter Try.func6, Try.ntmps6
  go_wp2_with (first
    | (go_at_call 12; refine (H12.out _).mono ?_; rintro e w1 ⟨q1, c1, rfl, o1, b1⟩)
    | (go_at_call 11; refine (H11.out _ _ w1 _ (o1.low (Nat.zero_le _)) ((Below.refl _ w1).alloc (Nat.le_refl _) _) _ lies_three).mono ?_; rintro e w2 ⟨rfl, b2⟩)
    | (go_at_call 13; refine (H13.out _).mono ?_; rintro e w3 ⟨rfl, b3⟩))
  go_ret
  have y1 := b1.alloc b1.size (.cells #[.int .u8 3, .int .u8 1, .int .u8 97] 5)
  have y2 := below_from y1 b2 y1.size
  exact ⟨rfl, below_from y2 b3 y2.size⟩

end Go.Proofs.Ytefidmjekjhdaaa
