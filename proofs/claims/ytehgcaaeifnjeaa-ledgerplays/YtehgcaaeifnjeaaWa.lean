/-
  The ledger's functions New, find, add; all calls on no ledger.
-/
import Derived.Test.YtehgcaaeifnjeaaDk
import Derived.Test.YtehgcaaeifnjeaaShelf
import Derived.Carry
import Derived.Deep.CutBlock
import Derived.Deep.CutRange
import Derived.Deep.DeepCutAuto
import Derived.Deep.RegionHeld3
namespace Go.Proofs.Ytehgcaaeifnjeaa
open Go.RowKit Go.Maps Go.WideMaps

theorem law9 : Keyed Try.prog 9 := string_keyed Try.underlying9
theorem zero66 (w : World) : (zeroValue 66).run Try.prog w = .ok (.pointer none) w := by kernel_rfl
def fptr (o : Option Ac) : Value := match o with
  | none => .pointer none
  | some f => .pointer (some ⟨f.fb, 0, none⟩)
theorem c1 {w : World} {g : Nat} {x : Value} {t : TypeId} (h : w.heap[g]? = some (.cells #[x] t (0, 0))) : w.cell? ⟨g, 0, none⟩ = some x := by rw [cell_of h]; rfl
theorem look_at {w : World} {mb : Option Nat} {l : List Ac} (h : MpAt w mb l) (s : ByteArray) (hs : s.size ≤ maxLen) :
    (Instr.lookup 59 (.map mb) (.string s) false).run Try.prog w = .ok (fptr (fnd Ac.nm s.data.toList l)) w := by
  have hkey := keyOf_string_mk (P := Try.prog) Try.underlying9 hs
  unfold MpAt at h
  cases mb with
  | none =>
    subst h
    have := Maps.look_nil (w := w) false law9 Try.underlying59 (zero66 w) hkey
    simpa [fnd, fptr] using this
  | some m =>
    obtain ⟨v, ps, hr, hv⟩ := World.ownsMap.lookup h law9 Try.underlying59 (zero66 w) (zd := .nil) (zp := []) rfl hkey
    rw [mapOf_at] at hv
    rw [hr]
    cases hf : fnd Ac.nm s.data.toList l with
    | none => rw [hf] at hv; rw [pE_nil hv]; rfl
    | some f => rw [hf] at hv; rw [pE_held hv]; rfl

set_option maxHeartbeats 400000 in
theorem new_any (w : World) : Calls Try.prog 11 #[] w fun e w' => e = .returned (.pointer (some ⟨w.heap.size, 0, none⟩)) ∧ w' = w.alloc (.cells #[.map none] 61 (0, 0)) := by
  go_enter Try.func11, Try.ntmps11
  go_wp2_with fail
  go_ret
  exact ⟨rfl, rfl⟩
theorem led_new (w : World) : Led (w.alloc (.cells #[.map none] 61 (0, 0))) (· = w.heap.size) w.heap.size [] :=
  ⟨⟨none, [], ⟨new0, rfl, (fun _ h => nomatch h), List.Pairwise.nil, (fun _ h => nomatch h), Nat.zero_le _, (fun _ h => nomatch h)⟩, rfl, fun k hk => by
    rcases hk with h | h | ⟨a, ha, _⟩
    · exact h
    · cases h
    · cases ha⟩, fun k hk => by rw [show k = w.heap.size from hk, World.size_alloc]; omega⟩
set_option maxHeartbeats 400000 in
theorem find_nil (w : World) (s : ByteArray) : Calls Try.prog 31 #[.pointer none, .string s] w fun e w' => e = .returned (.pointer none) ∧ w' = w := by
  go_enter Try.func31, Try.ntmps31
  go_wp2_with fail
  go_ret
  exact ⟨rfl, rfl⟩
set_option maxHeartbeats 400000 in
theorem find_raw (w : World) (pb : Nat) (mb : Option Nat) (s : ByteArray) (v : Value) (h : Hid (w.heap[pb]? = some (.cells #[.map mb] 61 (0, 0)))) (hlk : (Instr.lookup 59 (.map mb) (.string s) false).run Try.prog w = .ok v w) :
    Calls Try.prog 31 #[.pointer (some ⟨pb, 0, none⟩), .string s] w fun e w' => e = .returned v ∧ w' = w := by
  have e0 := c1 h.out
  go_enter Try.func31, Try.ntmps31
  go_wp2_with fail
  go_ret
  exact ⟨rfl, rfl⟩
theorem find_any {w : World} {pb : Nat} {mb : Option Nat} {l : List Ac} (h : LgAt w pb mb l) (s : ByteArray) (hs : s.size ≤ 281474976710656) :
    Calls Try.prog 31 #[.pointer (some ⟨pb, 0, none⟩), .string s] w fun e w' => e = .returned (fptr (fnd Ac.nm s.data.toList l)) ∧ w' = w :=
  find_raw w pb mb s _ h.cell (look_at h.mp s (by unfold maxLen; omega))

set_option maxHeartbeats 400000 in
theorem clone_at (s : ByteArray) (w : World) (h : s.size ≤ 281474976710656) : Calls Try.prog 46 #[.string s] w fun e w' => e = .returned (.string s) ∧ Below w.heap.size w w' := by
  have H : Hid (∀ w, Calls Try.prog 54 #[.string s] w fun e w' => e = .returned (.string s) ∧ Below w.heap.size w w') := fun w => Try.stringslite_Clone s w h
  go_enter Try.func46, Try.ntmps46
  go_wp2_with (go_at_call 54; refine (H.out _).mono ?_)
  rintro e w1 ⟨rfl, b1⟩
  go_wp2_with fail
  go_ret
  exact ⟨rfl, b1⟩

/-! ### no ledger -/
set_option maxHeartbeats 400000 in
theorem open_nil (a b c d : Int) (w : World) (s : ByteArray) : Calls Try.prog 18 #[.pointer none, .string s, .agg #[.int .i64 a, .int .i64 b, .int .i64 c, .int .i64 d]] w fun e w' => e = .returned (.int .i64 10) ∧ Below w.heap.size w w' := by
  go_enter Try.func18, Try.ntmps18
  go_wp2_with fail
  go_ret
  exact ⟨rfl, (Below.refl _ w).alloc (Nat.le_refl _) _⟩
set_option maxHeartbeats 400000 in
theorem close_nil (w : World) (s : ByteArray) : Calls Try.prog 25 #[.pointer none, .string s] w fun e w' => e = .returned (.int .i64 3) ∧ w' = w := by
  have H : Hid (Calls Try.prog 31 #[.pointer none, .string s] w fun e w' => e = .returned (.pointer none) ∧ w' = w) := find_nil w s
  go_enter Try.func25, Try.ntmps25
  go_wp2_with (go_at_call 31; refine H.out.mono ?_)
  rintro e w1 ⟨rfl, rfl⟩
  go_wp2_with fail
  go_ret
  exact ⟨rfl, rfl⟩
set_option maxHeartbeats 400000 in
theorem names_nil (w : World) : Calls Try.prog 17 #[.pointer none] w fun e w' => e = .returned (.slice none 0 0) ∧ w' = w := by
  go_enter Try.func17, Try.ntmps17
  go_wp2_with fail
  go_ret
  exact ⟨rfl, rfl⟩
set_option maxHeartbeats 1000000 in
theorem used_no (w : World) (p : Value) (s : ByteArray) (H : Hid (∀ w1, Below w.heap.size w w1 → Calls Try.prog 31 #[p, .string s] w1 fun e w' => e = .returned (.pointer none) ∧ w' = w1)) : Calls Try.prog 14 #[p, .string s] w fun e w' => e = ansV (V.nil, 3) ∧ Below w.heap.size w w' := by
  go_enter Try.func14, Try.ntmps14
  go_wp2_with (go_at_call 31; refine (H.out _ ((Below.refl _ w).alloc (Nat.le_refl _) _)).mono ?_)
  rintro e w1 ⟨rfl, rfl⟩
  have z1 := new0 (w := w) (o := .cells #[.int .i64 0, .int .i64 0, .int .i64 0, .int .i64 0] 33)
  have y1 : Hid (Below w.heap.size w (w.alloc (.cells #[.int .i64 0, .int .i64 0, .int .i64 0, .int .i64 0] 33))) := (Below.refl _ w).alloc (Nat.le_refl _) _
  generalize w.alloc (.cells #[.int .i64 0, .int .i64 0, .int .i64 0, .int .i64 0] 33) = W at *
  obtain ⟨r0, r1, r2, r3, rf0, rf1, rf2, rf3, rs, rn⟩ := cells4 z1
  clear H
  go_wp2_with fail
  have r := at_set4 (v0 := .int .i64 0) (v1 := .int .i64 0) (v2 := .int .i64 0) (v3 := .int .i64 0) z1
  obtain ⟨c0, c1, c2, c3, -⟩ := cells4 r
  refine bodyPost_ret (by simp [results, Try.results14, go_sem, c0, c1, c2, c3]; rfl) rfl ?_
  exact ⟨rfl, (((y1.out.setCell (by simp) _).setCell (by simp) _).setCell (by simp) _).setCell (by simp) _⟩
set_option maxHeartbeats 1000000 in
theorem left_no (w : World) (p : Value) (s : ByteArray) (H : Hid (∀ w1, Below w.heap.size w w1 → Calls Try.prog 31 #[p, .string s] w1 fun e w' => e = .returned (.pointer none) ∧ w' = w1)) : Calls Try.prog 27 #[p, .string s] w fun e w' => e = ansV (V.nil, 3) ∧ Below w.heap.size w w' := by
  go_enter Try.func27, Try.ntmps27
  go_wp2_with (go_at_call 31; refine (H.out _ ((Below.refl _ w).alloc (Nat.le_refl _) _)).mono ?_)
  rintro e w1 ⟨rfl, rfl⟩
  have z1 := new0 (w := w) (o := .cells #[.int .i64 0, .int .i64 0, .int .i64 0, .int .i64 0] 33)
  have y1 : Hid (Below w.heap.size w (w.alloc (.cells #[.int .i64 0, .int .i64 0, .int .i64 0, .int .i64 0] 33))) := (Below.refl _ w).alloc (Nat.le_refl _) _
  generalize w.alloc (.cells #[.int .i64 0, .int .i64 0, .int .i64 0, .int .i64 0] 33) = W at *
  obtain ⟨r0, r1, r2, r3, rf0, rf1, rf2, rf3, rs, rn⟩ := cells4 z1
  clear H
  go_wp2_with fail
  have r := at_set4 (v0 := .int .i64 0) (v1 := .int .i64 0) (v2 := .int .i64 0) (v3 := .int .i64 0) z1
  obtain ⟨c0, c1, c2, c3, -⟩ := cells4 r
  refine bodyPost_ret (by simp [results, Try.results27, go_sem, c0, c1, c2, c3]; rfl) rfl ?_
  exact ⟨rfl, (((y1.out.setCell (by simp) _).setCell (by simp) _).setCell (by simp) _).setCell (by simp) _⟩
end Go.Proofs.Ytehgcaaeifnjeaa
