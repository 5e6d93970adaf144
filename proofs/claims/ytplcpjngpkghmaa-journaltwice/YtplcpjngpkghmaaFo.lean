/-
  The contract of wire.Open.
-/
import Derived.Test.YtplcpjngpkghmaaFr
namespace Go.Proofs.Ytplcpjngpkghmaa
open Go.RowKit

theorem own_empty {w : World} {B : Nat} (hB : B ≤ w.heap.size) : Own (w.alloc (.cells #[] 5)) B (.slice (some ⟨w.heap.size, 0, none⟩) 0 0) [] :=
  ⟨rfl, .inr ⟨w.heap.size, 0, #[], rfl, hB, new0, Nat.le_refl _, by decide, rfl, rfl⟩⟩

theorem eql_some (ad : Addr) (n c : Nat) : ∀ w, (binOp .eql 31 (.slice (some ad) n c) (.slice none 0 0)).run Try.prog w = .ok (.bool false) w := fun _ => by kernel_rfl
theorem eql_none : ∀ w, (binOp .eql 31 (.slice none 0 0) (.slice none 0 0)).run Try.prog w = .ok (.bool true) w := fun _ => by kernel_rfl

set_option maxHeartbeats 400000 in
set_option maxRecDepth 100000 in
theorem bc_at (l : List UInt8) (ad : Addr) (c n : Nat) (w : World) (hn : Hid (l.length = n)) (hle : n ≤ 140737488355328) (ha : Hid (Lies w (some ad) l)) :
    Calls Try.prog 45 #[.slice (some ad) n c] w fun e w' => ∃ v, e = .returned v ∧ Own w' w.heap.size v l ∧ Below w.heap.size w w' := by
  have he := eql_some ad n c
  go_enter Try.func45, Try.ntmps45
  go_wp2_with (at_builtin; refine append_bytes (w := w.alloc (.cells #[] 5)) rfl _ _ rfl w.heap.size (.slice (some ⟨w.heap.size, 0, none⟩) 0 0) [] l rfl (own_empty (Nat.le_refl _)) (some ad) c n rfl hn.out (fun e => by cases e) (ha.out.keep ((Below.refl _ w).alloc (Nat.le_refl _) _) (Nat.le_refl _)) (by rw [hn.out]; simp; omega) (by simp) ?_; intro v' w4 h1 h2)
  go_ret
  exact ⟨v', rfl, h1, ((Below.refl _ w).alloc (Nat.le_refl _) _).trans h2⟩

set_option maxHeartbeats 400000 in
set_option maxRecDepth 100000 in
theorem bc_none (w : World) :
    Calls Try.prog 45 #[.slice none 0 0] w fun e w' => e = .returned (.slice none 0 0) ∧ w' = w := by
  have he := eql_none
  go_enter Try.func45, Try.ntmps45
  go_wp2_with fail
  go_ret
  exact ⟨rfl, rfl⟩

theorem bc_any (l : List UInt8) (a : Option Addr) (c : Nat) (w : World) (hle : l.length ≤ 140737488355328) (ha : Lies w a l) (hc : a = none → c = 0) :
    Calls Try.prog 45 #[.slice a l.length c] w fun e w' => ∃ q c', e = .returned (.slice q l.length c') ∧ Own w' w.heap.size (.slice q l.length c') l ∧ Below w.heap.size w w' := by
  cases a with
  | none =>
    obtain rfl : l = [] := by
      rcases ha with h | ⟨g, o, e, _⟩
      · exact h
      · cases e
    obtain rfl := hc rfl
    refine (bc_none w).mono ?_
    rintro e w' ⟨rfl, rfl⟩
    exact ⟨none, 0, rfl, Own.nil _ _, Below.refl _ _⟩
  | some ad =>
    refine (bc_at l ad c l.length w rfl hle ha).mono ?_
    rintro e w' ⟨v, rfl, h1, h2⟩
    obtain ⟨q, c', rfl, _⟩ := h1.shape
    exact ⟨q, c', rfl, h1, h2⟩

set_option maxHeartbeats 400000 in
theorem open_short (a : Option Addr) (c n : Nat) (w : World) (hn : (n : Int) < 8) :
    Calls Try.prog 77 #[.slice a n c] w fun e w' => e = .returned (.tuple #[.slice none 0 0, .slice none 0 0, .int .i64 12]) ∧ w' = w := by
  go_enter Try.func77, Try.ntmps77
  go_wp2_with fail
  go_ret3
  exact ⟨rfl, rfl⟩
set_option maxHeartbeats 1000000 in
theorem open_size (g o c n m : Nat) (w : World) (hn : 8 ≤ n) (hm : m < 4294967296) (h : 4096 < (m : Int) ∨ ((m : Int) ≤ 4096 ∧ (n : Int) - 8 < (m : Int)))
    (H : Hid (∀ w, Calls Try.prog 90 #[.slice (some ⟨g, o, none⟩) n c] w fun e w' => e = .returned (.int .u32 m) ∧ ∃ k, w' = w.drewN k)) :
    Calls Try.prog 77 #[.slice (some ⟨g, o, none⟩) n c] w fun e w' => e = .returned (.tuple #[.slice none 0 0, .slice none 0 0, .int .i64 12]) ∧ ∃ k, w' = w.drewN k := by
  rcases h with h | ⟨h, h'⟩
  all_goals go_enter Try.func77, Try.ntmps77
  all_goals go_wp2_with (go_at_call 90; refine (H.out _).mono ?_; rintro e w1 ⟨rfl, k1, rfl⟩)
  all_goals go_ret3
  all_goals exact ⟨rfl, _, rfl⟩

/-- where a piece from a place on lies -/
def cutA (a : Option Addr) (c lo : Nat) : Option Addr := if c = lo then a else a.map (·.add lo)

theorem elem22 : Try.prog.underlying 31 = some (.slice (Try.prog.elem 31)) := by kernel_rfl
theorem size5 : ∀ w, (sizeOf (Try.prog.elem 31)).run Try.prog w = .ok 1 w := fun w => by kernel_rfl
theorem sliced_eq (a : Option Addr) (l h c : Nat) : sliced a l h c 1 = .slice (cutA a c l) (h - l) (c - l) := by
  unfold sliced cutA; rw [Nat.mul_one]

theorem slice_l (a : Option Addr) (n c lo : Nat) (k : IntKind) (i : Int) (hi : (lo : Int) = i) (h : lo ≤ n) : ∀ w, (Instr.sliceAt 31 (.slice a n c) (some (.int k i)) none none).run Try.prog w = .ok (.slice (cutA a c lo) (n - lo) (c - lo)) w := fun w => by
  subst hi
  rw [run_sliceAt_slice (h := elem22), run_slice_l (ht := elem22) (h0 := by omega) (h1 := by omega), size5]
  simp only [Result.andThen, Int.toNat_natCast, sliced_eq]
theorem slice_h (a : Option Addr) (n c hi : Nat) (k : IntKind) (i : Int) (he : (hi : Int) = i) (h : hi ≤ c) : ∀ w, (Instr.sliceAt 31 (.slice a n c) none (some (.int k i)) none).run Try.prog w = .ok (.slice (cutA a c 0) hi c) w := fun w => by
  subst he
  rw [run_sliceAt_slice (h := elem22), run_slice_h (ht := elem22) (h0 := by omega) (h2 := by omega), size5]
  simp only [Result.andThen, Int.toNat_natCast, sliced_eq, Nat.sub_zero]
theorem slice_lh (a : Option Addr) (n c lo hi : Nat) (k k' : IntKind) (i j : Int) (hl : (lo : Int) = i) (he : (hi : Int) = j) (h1 : lo ≤ hi) (h : hi ≤ c) : ∀ w, (Instr.sliceAt 31 (.slice a n c) (some (.int k i)) (some (.int k' j)) none).run Try.prog w = .ok (.slice (cutA a c lo) (hi - lo) (c - lo)) w := fun w => by
  subst hl he
  rw [run_sliceAt_slice (h := elem22), run_slice_lh (ht := elem22) (h0 := by omega) (h1 := by omega) (h2 := by omega), size5]
  simp only [Result.andThen, Int.toNat_natCast, sliced_eq]

theorem fcut_none {a : Option Addr} {c lo : Nat} (h : a = none → c = 0) : cutA a c lo = none → c - lo = 0 := by
  intro e
  unfold cutA at e
  split at e
  · omega
  · cases a with
    | none => rw [h rfl]; omega
    | some ad => cases e

theorem lies_cut {w : World} {a : Option Addr} {l : List UInt8} {c lo : Nat} (h : Lies w a l) (hl : l.length ≤ c) : Lies w (cutA a c lo) (l.drop lo) := by
  unfold cutA
  split
  · refine .inl (List.drop_eq_nil_of_le (by omega))
  · rcases h with rfl | ⟨g, o, rfl, h⟩
    · exact .inl (by simp)
    · refine .inr ⟨g, o + lo, by rw [Option.map_some, Addr.add_lit], fun k x hx => ?_⟩
      rw [List.getElem?_drop] at hx
      have := h (lo + k) x hx
      rwa [← Nat.add_assoc] at this
theorem lies_take {w : World} {a : Option Addr} {l : List UInt8} (n : Nat) (h : Lies w a l) : Lies w a (l.take n) := by
  rcases h with rfl | ⟨g, o, rfl, h⟩
  · exact .inl (by simp)
  · refine .inr ⟨g, o, rfl, fun k x hx => h k x ?_⟩
    rw [List.getElem?_take] at hx
    split at hx
    · exact hx
    · cases hx
theorem lies_heap {w w' : World} {a : Option Addr} {l : List UInt8} (h : Lies w a l) (e : w'.heap = w.heap) : Lies w' a l := by
  rcases h with rfl | ⟨g, o, rfl, h⟩
  · exact .inl rfl
  · exact .inr ⟨g, o, rfl, fun k x hx => by rw [← h k x hx]; simp only [World.cell?, e]⟩

theorem below_heap {w w' : World} (n : Nat) (h : w' = w.drewN n) : Below w.heap.size w w' := by subst h; exact below_drewN (Below.refl _ _) n

set_option maxHeartbeats 1000000 in
theorem open_bad (a : Option Addr) (c n m k r : Nat) (w : World) (hn : 8 ≤ n) (hc : n ≤ c) (hm : m ≤ 4096) (hmn : m + 8 ≤ n)
    (H1 : Hid (∀ w', w'.heap = w.heap → Calls Try.prog 90 #[.slice a n c] w' fun e w'' => e = .returned (.int .u32 m) ∧ ∃ k, w'' = w'.drewN k))
    (H2 : Hid (∀ w', w'.heap = w.heap → Calls Try.prog 90 #[.slice (cutA a c 4) (n - 4) (c - 4)] w' fun e w'' => e = .returned (.int .u32 k) ∧ ∃ k, w'' = w'.drewN k))
    (H3 : Hid (∀ w', w'.heap = w.heap → Calls Try.prog 58 #[.slice (cutA a c 0) 4 c, .slice (cutA (cutA a c 8) (c - 8) 0) m (c - 8)] w' fun e w'' => e = .returned (.int .u32 r) ∧ w'' = w'))
    (hkr : ((k : Int) != (r : Int)) = true) :
    Calls Try.prog 77 #[.slice a n c] w fun e w' => e = .returned (.tuple #[.slice none 0 0, .slice none 0 0, .int .i64 12]) ∧ Below w.heap.size w w' := by
  have s1 := slice_l a n c 8 .i64 8 rfl (by omega)
  have s2 := slice_l a n c 4 .i64 4 rfl (by omega)
  have s3 := slice_h a n c 4 .i64 4 rfl (by omega)
  have s4 := slice_h (cutA a c 8) (n - 8) (c - 8) m .u32 m rfl (by omega)
  have s5 := slice_l (cutA a c 8) (n - 8) (c - 8) m .u32 m rfl (by omega)
  have hn8 : decide ((n : Int) < 8) = false := decide_eq_false (by omega)
  have hm8 : decide ((4096 : Int) < (m : Int)) = false := decide_eq_false (by omega)
  have hm9 : decide (((n - 8 : Nat) : Int) < (m : Int)) = false := decide_eq_false (by omega)
  go_enter Try.func77, Try.ntmps77
  go_wp2_with (go_at_call 90; refine (H1.out _ rfl).mono ?_; rintro e w1 ⟨rfl, k1, rfl⟩)
  go_quiet (fail)
  have E2 : Hid (((w.drewN k1).drewN nq).heap = w.heap) := (rfl : w.heap = w.heap)
  have B2 : Hid (Below w.heap.size w ((w.drewN k1).drewN nq)) := below_drewN (below_drewN (Below.refl _ _) _) _
  generalize (w.drewN k1).drewN nq = w2 at *
  go_wp2_with fail
  go_quiet (first | (go_at_call 90; exact Calls.quiet_of (H2.out _ E2.out)) | (go_at_call 58; exact Calls.quiet_of_same (H3.out _ E2.out)))
  go_wp2_with fail
  go_ret3
  exact ⟨rfl, below_drewN B2.out _⟩

set_option maxHeartbeats 1000000 in
theorem open_good (a : Option Addr) (c n m k : Nat) (x y : List UInt8) (w : World) (hn : 8 ≤ n) (hc : n ≤ c) (hm : m ≤ 4096) (hmn : m + 8 ≤ n)
    (H1 : Hid (∀ w', w'.heap = w.heap → Calls Try.prog 90 #[.slice a n c] w' fun e w'' => e = .returned (.int .u32 m) ∧ ∃ k, w'' = w'.drewN k))
    (H2 : Hid (∀ w', w'.heap = w.heap → Calls Try.prog 90 #[.slice (cutA a c 4) (n - 4) (c - 4)] w' fun e w'' => e = .returned (.int .u32 k) ∧ ∃ k, w'' = w'.drewN k))
    (H3 : Hid (∀ w', w'.heap = w.heap → Calls Try.prog 58 #[.slice (cutA a c 0) 4 c, .slice (cutA (cutA a c 8) (c - 8) 0) m (c - 8)] w' fun e w'' => e = .returned (.int .u32 k) ∧ w'' = w'))
    (H4 : Hid (∀ w', Below w.heap.size w w' → Calls Try.prog 45 #[.slice (cutA (cutA a c 8) (c - 8) 0) m (c - 8)] w' fun e w'' => ∃ q c', e = .returned (.slice q m c') ∧ Own w'' w'.heap.size (.slice q m c') x ∧ Below w'.heap.size w' w''))
    (H5 : Hid (∀ w', Below w.heap.size w w' → Calls Try.prog 45 #[.slice (cutA (cutA a c 8) (c - 8) m) (n - 8 - m) (c - 8 - m)] w' fun e w'' => ∃ q c', e = .returned (.slice q (n - 8 - m) c') ∧ Own w'' w'.heap.size (.slice q (n - 8 - m) c') y ∧ Below w'.heap.size w' w'')) :
    Calls Try.prog 77 #[.slice a n c] w fun e w' => ∃ q c' q' c'', e = .returned (.tuple #[.slice q m c', .slice q' (n - 8 - m) c'', .int .i64 0]) ∧ Own w' w.heap.size (.slice q m c') x ∧ Own w' w.heap.size (.slice q' (n - 8 - m) c'') y ∧ (∀ g g', (Value.slice q m c').ownBlock = some g → (Value.slice q' (n - 8 - m) c'').ownBlock = some g' → g ≠ g') ∧ Below w.heap.size w w' := by
  have s1 := slice_l a n c 8 .i64 8 rfl (by omega)
  have s2 := slice_l a n c 4 .i64 4 rfl (by omega)
  have s3 := slice_h a n c 4 .i64 4 rfl (by omega)
  have s4 := slice_h (cutA a c 8) (n - 8) (c - 8) m .u32 m rfl (by omega)
  have s5 := slice_l (cutA a c 8) (n - 8) (c - 8) m .u32 m rfl (by omega)
  have hn8 : decide ((n : Int) < 8) = false := decide_eq_false (by omega)
  have hm8 : decide ((4096 : Int) < (m : Int)) = false := decide_eq_false (by omega)
  have hm9 : decide (((n - 8 : Nat) : Int) < (m : Int)) = false := decide_eq_false (by omega)
  go_enter Try.func77, Try.ntmps77
  go_wp2_with (go_at_call 90; refine (H1.out _ rfl).mono ?_; rintro e w1 ⟨rfl, k1, rfl⟩)
  go_quiet (fail)
  have E2 : Hid (((w.drewN k1).drewN nq).heap = w.heap) := (rfl : w.heap = w.heap)
  have B2 : Hid (Below w.heap.size w ((w.drewN k1).drewN nq)) := below_drewN (below_drewN (Below.refl _ _) _) _
  generalize (w.drewN k1).drewN nq = w2 at *
  go_wp2_with fail
  go_quiet (first | (go_at_call 90; exact Calls.quiet_of (H2.out _ E2.out)) | (go_at_call 58; exact Calls.quiet_of_same (H3.out _ E2.out)))
  have B3 : Hid (Below w.heap.size w (w2.drewN nq)) := below_drewN B2.out _
  generalize w2.drewN nq = w3 at *
  go_wp2_with fail
  refine (H4.out _ B3.out).mono ?_; rintro e w4 ⟨q4, c4, rfl, o4, b4⟩; have O4 : Hid (Own w4 w3.heap.size (.slice q4 m c4) x) := o4; have B4 : Hid (Below w3.heap.size w3 w4) := b4; have D4 : Hid (Below w.heap.size w w4) := below_from B3.out b4 B3.out.size; clear o4 b4
  go_wp2_with fail
  refine (H5.out _ D4.out).mono ?_; rintro e w5 ⟨q5, c5, rfl, o5, b5⟩; have O5 : Hid (Own w5 w4.heap.size (.slice q5 (n - 8 - m) c5) y) := o5; have B5 : Hid (Below w4.heap.size w4 w5) := b5; clear o5 b5
  go_wp2_with fail
  go_ret3
  have hs3 := B3.out.size
  have hs4 := D4.out.size
  refine ⟨q4, c4, q5, c5, rfl, (O4.out.keep B5.out).low hs3, O5.out.low hs4, fun g g' h1 h2 => ?_, below_from D4.out B5.out hs4⟩
  have k1 := (World.ownsRow.lt O4.out g h1).2
  have k2 := (World.ownsRow.lt O5.out g' h2).1
  omega


/-- what Open answers -/
def openAns (w w' : World) (l : List UInt8) (e : Ending) : Prop :=
  match Crc.opened l with
  | none => e = .returned (.tuple #[.slice none 0 0, .slice none 0 0, .int .i64 12])
  | some (x, y) => ∃ q c' q' c'', e = .returned (.tuple #[.slice q x.length c', .slice q' y.length c'', .int .i64 0]) ∧ Own w' w.heap.size (.slice q x.length c') x ∧ Own w' w.heap.size (.slice q' y.length c'') y ∧ (∀ g g', (Value.slice q x.length c').ownBlock = some g → (Value.slice q' y.length c'').ownBlock = some g' → g ≠ g')

theorem four_cut {w : World} {a : Option Addr} {l : List UInt8} {n c : Nat} (h4 : 4 ≤ l.length) (hn : l.length ≤ n) (ha : Lies w a l) :
    ∀ w', w'.heap = w.heap → Calls Try.prog 90 #[.slice a n c] w' fun e w'' => e = .returned (.int .u32 (Crc.fourN l)) ∧ ∃ k, w'' = w'.drewN k := by
  intro w' hw
  rcases lies_heap ha hw with rfl | ⟨g, o, rfl, h⟩
  · simp at h4
  · match l, h4 with
    | a :: b :: c' :: d :: l, _ => exact four_any a b c' d l g o n c w' (by simp at hn; omega) h
    | [_], h | [_, _], h | [_, _, _], h => simp at h

set_option maxHeartbeats 1000000 in
theorem open_size' (a : Option Addr) (c n m : Nat) (w : World) (hn : 8 ≤ n) (hm : m < 4294967296) (h : 4096 < (m : Int) ∨ ((m : Int) ≤ 4096 ∧ ((n - 8 : Nat) : Int) < (m : Int)))
    (H : Hid (∀ w', w'.heap = w.heap → Calls Try.prog 90 #[.slice a n c] w' fun e w'' => e = .returned (.int .u32 m) ∧ ∃ k, w'' = w'.drewN k)) :
    Calls Try.prog 77 #[.slice a n c] w fun e w' => e = .returned (.tuple #[.slice none 0 0, .slice none 0 0, .int .i64 12]) ∧ ∃ k, w' = w.drewN k := by
  have s1 := slice_l a n c 8 .i64 8 rfl (by omega)
  rcases h with h | ⟨h, h'⟩
  all_goals go_enter Try.func77, Try.ntmps77
  all_goals go_wp2_with (go_at_call 90; refine (H.out _ rfl).mono ?_; rintro e w1 ⟨rfl, k1, rfl⟩)
  all_goals go_ret3
  all_goals exact ⟨rfl, _, rfl⟩

theorem open_any (l : List UInt8) (a : Option Addr) (c : Nat) (w : World) (ha : Lies w a l) (hc : a = none → c = 0) (hlc : l.length ≤ c) (hl : l.length ≤ 140737488355328) :
    Calls Try.prog 77 #[.slice a l.length c] w fun e w' => openAns w w' l e ∧ Below w.heap.size w w' := by
  by_cases h8 : l.length < 8
  · have e : Crc.opened l = none := by unfold Crc.opened; rw [if_pos h8]
    refine (open_short a c l.length w (by omega)).mono ?_
    rintro r w' ⟨rfl, rfl⟩
    refine ⟨?_, Below.refl _ _⟩
    unfold openAns; rw [e]
  have H1 := four_cut (n := l.length) (c := c) (by omega) (Nat.le_refl _) ha
  have hm := Crc.fourN_lt l
  by_cases hs : 4096 < Crc.fourN l ∨ l.length - 8 < Crc.fourN l
  · have e : Crc.opened l = none := by unfold Crc.opened; rw [if_neg h8, if_pos hs]
    refine (open_size' a c l.length (Crc.fourN l) w (by omega) hm (by omega) H1).mono ?_
    rintro r w' ⟨rfl, k, rfl⟩
    refine ⟨?_, below_drewN (Below.refl _ _) _⟩
    unfold openAns; rw [e]
  have hO : Crc.opened l = if Crc.fourN (l.drop 4) = Crc.crc (l.take 4 ++ (l.drop 8).take (Crc.fourN l)) then some ((l.drop 8).take (Crc.fourN l), (l.drop 8).drop (Crc.fourN l)) else none := by
    unfold Crc.opened; rw [if_neg h8, if_neg hs]
  generalize Crc.fourN l = m at *
  have d4 : (l.drop 4).length = l.length - 4 := List.length_drop ..
  have d8 : (l.drop 8).length = l.length - 8 := List.length_drop ..
  have H2 := four_cut (n := l.length - 4) (c := c - 4) (by omega) (Nat.le_of_eq d4) (lies_cut (lo := 4) ha hlc)
  have t4 : (l.take 4).length = 4 := by rw [List.length_take]; omega
  have tx : ((l.drop 8).take m).length = m := by rw [List.length_take]; omega
  have ty : ((l.drop 8).drop m).length = l.length - 8 - m := by rw [List.length_drop, d8]
  have L8 : Lies w (cutA a c 8) (l.drop 8) := lies_cut (lo := 8) ha hlc
  have Lx : Lies w (cutA (cutA a c 8) (c - 8) 0) ((l.drop 8).take m) := lies_take m (by have := lies_cut (c := c - 8) (lo := 0) L8 (by omega); rwa [List.drop_zero] at this)
  have Ly : Lies w (cutA (cutA a c 8) (c - 8) m) ((l.drop 8).drop m) := lies_cut (c := c - 8) L8 (by omega)
  have L0 : Lies w (cutA a c 0) (l.take 4) := lies_take 4 (by have := lies_cut (c := c) (lo := 0) ha hlc; rwa [List.drop_zero] at this)
  have H3 : ∀ w', w'.heap = w.heap → Calls Try.prog 58 #[.slice (cutA a c 0) 4 c, .slice (cutA (cutA a c 8) (c - 8) 0) m (c - 8)] w' fun e w'' => e = .returned (.int .u32 (Crc.crc (l.take 4 ++ (l.drop 8).take m))) ∧ w'' = w' := by
    intro w' hw
    have := check_any (l.take 4) ((l.drop 8).take m) (cutA a c 0) (cutA (cutA a c 8) (c - 8) 0) c (c - 8) w' (by omega) (by omega) (lies_heap L0 hw) (lies_heap Lx hw)
    rwa [t4, tx] at this
  by_cases hk : Crc.fourN (l.drop 4) = Crc.crc (l.take 4 ++ (l.drop 8).take m)
  · rw [if_pos hk] at hO
    rw [← hk] at H3
    have H4 : ∀ w', Below w.heap.size w w' → Calls Try.prog 45 #[.slice (cutA (cutA a c 8) (c - 8) 0) m (c - 8)] w' fun e w'' => ∃ q c', e = .returned (.slice q m c') ∧ Own w'' w'.heap.size (.slice q m c') ((l.drop 8).take m) ∧ Below w'.heap.size w' w'' := by
      intro w' hb
      have := bc_any ((l.drop 8).take m) (cutA (cutA a c 8) (c - 8) 0) (c - 8) w' (by omega) (Lx.keep hb (Nat.le_refl _)) (by have := fcut_none (a := cutA a c 8) (c := c - 8) (lo := 0) (fcut_none hc); simpa using this)
      rwa [tx] at this
    have H5 : ∀ w', Below w.heap.size w w' → Calls Try.prog 45 #[.slice (cutA (cutA a c 8) (c - 8) m) (l.length - 8 - m) (c - 8 - m)] w' fun e w'' => ∃ q c', e = .returned (.slice q (l.length - 8 - m) c') ∧ Own w'' w'.heap.size (.slice q (l.length - 8 - m) c') ((l.drop 8).drop m) ∧ Below w'.heap.size w' w'' := by
      intro w' hb
      have := bc_any ((l.drop 8).drop m) (cutA (cutA a c 8) (c - 8) m) (c - 8 - m) w' (by omega) (Ly.keep hb (Nat.le_refl _)) (fcut_none (a := cutA a c 8) (c := c - 8) (lo := m) (fcut_none hc))
      rwa [ty] at this
    refine (open_good a c l.length m _ ((l.drop 8).take m) ((l.drop 8).drop m) w (by omega) hlc (by omega) (by omega) H1 H2 H3 H4 H5).mono ?_
    rintro e w' ⟨q, c', q', c'', rfl, o1, o2, o3, b⟩
    refine ⟨?_, b⟩
    unfold openAns
    rw [hO]
    simp only []
    rw [tx, ty]
    exact ⟨q, c', q', c'', rfl, o1, o2, o3⟩
  · rw [if_neg hk] at hO
    refine (open_bad a c l.length m _ _ w (by omega) hlc (by omega) (by omega) H1 H2 H3 (by simp only [bne_iff_ne, ne_eq, Int.natCast_inj]; exact hk)).mono ?_
    rintro e w' ⟨rfl, b⟩
    refine ⟨?_, b⟩
    unfold openAns; rw [hO]

end Go.Proofs.Ytplcpjngpkghmaa
