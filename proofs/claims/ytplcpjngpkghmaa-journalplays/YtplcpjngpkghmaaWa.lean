/-
  The disk's small functions: Down, room, goesOn, SetFuse, New, unsynced, next, strings.Clone.
-/
import Derived.Test.YtplcpjngpkghmaaDk
import Derived.Test.YtplcpjngpkghmaaShelf
namespace Go.Proofs.Ytplcpjngpkghmaa
open Go.RowKit Go.Maps

theorem c4 {w : World} {g : Nat} {a b c d : Value} {t : TypeId} (h : w.heap[g]? = some (.cells #[a, b, c, d] t (0, 0))) : w.cell? ⟨g, 0, none⟩ = some a ∧ w.cell? ⟨g, 1, none⟩ = some b ∧ w.cell? ⟨g, 2, none⟩ = some c ∧ w.cell? ⟨g, 3, none⟩ = some d :=
  ⟨Lib.cell_of_heap h 0, Lib.cell_of_heap h 1, Lib.cell_of_heap h 2, Lib.cell_of_heap h 3⟩
theorem c2 {w : World} {g : Nat} {a b : Value} {t : TypeId} (h : w.heap[g]? = some (.cells #[a, b] t (0, 0))) : w.cell? ⟨g, 0, none⟩ = some a ∧ w.cell? ⟨g, 1, none⟩ = some b :=
  ⟨Lib.cell_of_heap h 0, Lib.cell_of_heap h 1⟩
theorem fz {w : World} {g : Nat} {cs : Array Value} {t : TypeId} (h : w.heap[g]? = some (.cells cs t (0, 0))) (i : Nat) : w.frozen? ⟨g, i, none⟩ = false := by simp [World.frozen?, h]
theorem setB {w : World} {g i : Nat} {cs : Array Value} {t : TypeId} (h : w.heap[g]? = some (.cells cs t (0, 0))) (v : Value) : (w.setCell ⟨g, i, none⟩ v).heap[g]? = some (.cells (cs.setIfInBounds i v) t (0, 0)) := Joins.block_setCell h v

set_option maxHeartbeats 400000 in
theorem down_nil (w : World) : Calls Try.prog 17 #[.pointer none] w fun e w' => e = .returned (.bool true) ∧ w' = w := by
  go_enter Try.func17, Try.ntmps17
  go_wp2_with fail
  go_ret
  exact ⟨rfl, rfl⟩
set_option maxHeartbeats 400000 in
theorem down_at (w : World) (pb : Nat) (a c d : Value) (b : Bool) (h : Hid (w.heap[pb]? = some (.cells #[a, .bool b, c, d] 63 (0, 0)))) :
    Calls Try.prog 17 #[.pointer (some ⟨pb, 0, none⟩)] w fun e w' => e = .returned (.bool b) ∧ w' = w := by
  obtain ⟨e0, e1, e2, e3⟩ := c4 h.out
  go_enter Try.func17, Try.ntmps17
  go_wp2_with fail
  go_ret
  exact ⟨rfl, rfl⟩

set_option maxHeartbeats 400000 in
theorem room_nil (w : World) : Calls Try.prog 50 #[.pointer none] w fun e w' => e = .returned (.int .i64 1048576) ∧ w' = w := by
  go_enter Try.func50, Try.ntmps50
  go_wp2_with fail
  go_ret
  exact ⟨rfl, rfl⟩
set_option maxHeartbeats 400000 in
theorem room_at (w : World) (fb : Nat) (a : Option Addr) (n c : Nat) (s : Value) (hn : n ≤ 1048576) (h : Hid (w.heap[fb]? = some (.cells #[.slice a n c, s] 84 (0, 0)))) :
    Calls Try.prog 50 #[.pointer (some ⟨fb, 0, none⟩)] w fun e w' => e = .returned (.int .i64 (1048576 - n)) ∧ w' = w := by
  obtain ⟨e0, e1⟩ := c2 h.out
  go_enter Try.func50, Try.ntmps50
  go_wp2_with fail
  go_ret
  exact ⟨rfl, rfl⟩
set_option maxHeartbeats 400000 in
theorem unsynced_at (w : World) (fb : Nat) (a : Option Addr) (n c s : Nat) (hn : n ≤ 1048576) (hs : s ≤ n) (h : Hid (w.heap[fb]? = some (.cells #[.slice a n c, .int .i64 s] 84 (0, 0)))) :
    Calls Try.prog 33 #[.pointer (some ⟨fb, 0, none⟩)] w fun e w' => e = .returned (.int .i64 ((n - s : Nat) : Int)) ∧ Below w.heap.size w w' := by
  obtain ⟨e0, e1⟩ := c2 h.out
  go_enter Try.func33, Try.ntmps33
  go_wp2_with fail
  go_quiet (fail)
  go_wp2_with fail
  go_ret
  rw [Int.ofNat_sub hs]
  exact ⟨rfl, below_drewN (Below.refl _ _) _⟩

set_option maxHeartbeats 400000 in
theorem next_none (w : World) (a : Option Addr) (c : Nat) : Calls Try.prog 34 #[.slice a 0 c] w fun e w' => e = .returned (.tuple #[.int .u8 0, .slice none 0 0]) ∧ w' = w := by
  go_enter Try.func34, Try.ntmps34
  go_wp2_with fail
  go_ret2
  exact ⟨rfl, rfl⟩
set_option maxHeartbeats 400000 in
theorem next_some (w : World) (g o n c : Nat) (x : UInt8) (hn : 0 < n) (hc : n ≤ c) (hx : w.cell? ⟨g, o, none⟩ = some (.int .u8 x.toNat)) : Calls Try.prog 34 #[.slice (some ⟨g, o, none⟩) n c] w fun e w' => (∃ q c', e = .returned (.tuple #[.int .u8 x.toNat, .slice q (n - 1) c']) ∧ (n - 1 = 0 ∨ q = some ⟨g, o + 1, none⟩) ∧ n - 1 ≤ c') ∧ Below w.heap.size w w' := by
  have h0 : ((n : Int) == 0) = false := by simp; omega
  go_enter Try.func34, Try.ntmps34
  go_wp2_with fail
  go_quiet (fail)
  all_goals go_wp2_with fail
  all_goals go_ret2
  · exact ⟨⟨_, _, rfl, .inl (by omega), by omega⟩, below_drewN (Below.refl _ _) _⟩
  · exact ⟨⟨_, _, rfl, .inr rfl, by omega⟩, below_drewN (Below.refl _ _) _⟩

set_option maxHeartbeats 400000 in
theorem clone_at (s : ByteArray) (w : World) (h : s.size ≤ 281474976710656) : Calls Try.prog 73 #[.string s] w fun e w' => e = .returned (.string s) ∧ Below w.heap.size w w' := by
  have H : Hid (∀ w, Calls Try.prog 78 #[.string s] w fun e w' => e = .returned (.string s) ∧ Below w.heap.size w w') := fun w => Try.stringslite_Clone s w h
  go_enter Try.func73, Try.ntmps73
  go_wp2_with (go_at_call 78; refine (H.out _).mono ?_)
  rintro e w1 ⟨rfl, b1⟩
  go_wp2_with fail
  go_ret
  exact ⟨rfl, b1⟩

set_option maxHeartbeats 400000 in
theorem setfuse_nil (w : World) (n : Int) : Calls Try.prog 14 #[.pointer none, .int .i64 n] w fun e w' => e = .returned (.tuple #[]) ∧ w' = w := by
  go_enter Try.func14, Try.ntmps14
  go_wp2_with fail
  exact bodyPost_ret (results_none rfl _ _ _) rfl ⟨rfl, rfl⟩
end Go.Proofs.Ytplcpjngpkghmaa
