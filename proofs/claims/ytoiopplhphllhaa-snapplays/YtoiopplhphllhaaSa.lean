/-
  The checkpoint's numberOut, its names, pieces as they lie.
-/
import Derived.Test.YtoiopplhphllhaaFo
import Derived.Test.YtoiopplhphllhaaRt
import Derived.Test.YtoiopplhphllhaaRm
import Derived.Deep.OwnRows
namespace Go.Proofs.Ytoiopplhphllhaa
open Go.RowKit Go.Maps

theorem k3 {w : World} {g : Nat} {a b c : Value} {t : TypeId} (h : w.heap[g]? = some (.cells #[a, b, c] t (0, 0))) : w.cell? ⟨g, 0, none⟩ = some a ∧ w.cell? ⟨g, 1, none⟩ = some b ∧ w.cell? ⟨g, 2, none⟩ = some c :=
  ⟨Lib.cell_of_heap h 0, Lib.cell_of_heap h 1, Lib.cell_of_heap h 2⟩
def nmL : List UInt8 := [115, 110, 97, 112]
def nmS : List UInt8 := [115, 110, 97, 112, 46, 110, 101, 119]
theorem make8 (w : World) : (Instr.makeSlice 30 (.int .i64 8) (.int .i64 8)).run Try.prog w = .ok (.slice (some ⟨w.heap.size, 0, none⟩) 8 8) (w.alloc (.cells #[.int .u8 0, .int .u8 0, .int .u8 0, .int .u8 0, .int .u8 0, .int .u8 0, .int .u8 0, .int .u8 0] 5)) := by
  have h := run_make_row' (P := Try.prog) 30 5 (.int .u8 0) 1 Try.underlying30 info5 rfl .i64 .i64 8 (by omega) (by omega) w
  rw [show ((8 : Nat) : Int) = 8 from rfl] at h
  rw [h, show madeCells #[Value.int .u8 0] 8 = #[.int .u8 0, .int .u8 0, .int .u8 0, .int .u8 0, .int .u8 0, .int .u8 0, .int .u8 0, .int .u8 0] by kernel_rfl]
/-- eight bytes of a number -/
def num8 (n : Nat) : List UInt8 := [UInt8.ofNat n, UInt8.ofNat (n / 256), UInt8.ofNat (n / 65536), UInt8.ofNat (n / 16777216), UInt8.ofNat (n / 4294967296), UInt8.ofNat (n / 1099511627776), UInt8.ofNat (n / 281474976710656), UInt8.ofNat (n / 72057594037927936)]
def num8C (n : Nat) : Array Value := #[.int .u8 ((n : Int) % 256), .int .u8 ((n : Int) / 256 % 256), .int .u8 ((n : Int) / 65536 % 256), .int .u8 ((n : Int) / 16777216 % 256), .int .u8 ((n : Int) / 4294967296 % 256), .int .u8 ((n : Int) / 1099511627776 % 256), .int .u8 ((n : Int) / 281474976710656 % 256), .int .u8 ((n : Int) / 72057594037927936)]
theorem byt (k : Nat) (z : Int) (h : z = ((k % 256 : Nat) : Int)) : Value.int .u8 z = .int .u8 ((UInt8.ofNat k).toNat : Int) := by rw [UInt8.toNat_ofNat', h]
theorem num8C_eq {n : Nat} (hn : n < 9223372036854775808) : (num8C n).toList = bv (num8 n) := by
  unfold num8C num8 bv
  simp only [List.map_cons, List.map_nil]
  rw [byt n ((n : Int) % 256) (by omega), byt (n / 256) ((n : Int) / 256 % 256) (by omega), byt (n / 65536) ((n : Int) / 65536 % 256) (by omega), byt (n / 16777216) ((n : Int) / 16777216 % 256) (by omega), byt (n / 4294967296) ((n : Int) / 4294967296 % 256) (by omega), byt (n / 1099511627776) ((n : Int) / 1099511627776 % 256) (by omega), byt (n / 281474976710656) ((n : Int) / 281474976710656 % 256) (by omega), byt (n / 72057594037927936) ((n : Int) / 72057594037927936) (by omega)]
theorem own_num {w : World} {n : Nat} (hn : n < 9223372036854775808) : Own (w.alloc (.cells (num8C n) 5)) w.heap.size (.slice (some ⟨w.heap.size, 0, none⟩) 8 8) (num8 n) := by
  refine ⟨by rw [bv_length, Nat.mul_one], .inr ⟨w.heap.size, 8, num8C n, rfl, Nat.le_refl _, new0, Nat.le_refl _, by decide, rfl, ?_⟩⟩
  rw [num8C_eq hn]
  rfl
set_option maxHeartbeats 1000000 in
set_option maxRecDepth 100000 in
theorem num_out (n : Nat) (hn : n < 9223372036854775808) (w : World) :
    Calls Try.prog 45 #[.int .i64 n] w fun e w' => ∃ q c, e = .returned (.slice q 8 c) ∧ Own w' w.heap.size (.slice q 8 c) (num8 n) ∧ Below w.heap.size w w' := by
  have hmk := make8
  go_enter Try.func45, Try.ntmps45
  go_wp2_with fail
  go_rounds 9
  go_ret
  exact ⟨_, _, rfl, own_num hn, (Below.refl _ w).alloc (Nat.le_refl _) _⟩


/-- a piece as it lies -/
structure RC where
  b : List UInt8
  a : Option Addr
  c : Nat
def RC.v (r : RC) : Value := .slice r.a r.b.length r.c
def RowV (w : World) (g o : Nat) (xs : List Value) : Prop := ∀ (k : Nat) (u : Value), xs[k]? = some u → w.cell? ⟨g, o + k, none⟩ = some u
theorem RowV.keep {w w1 : World} {g o B : Nat} {xs : List Value} (b : Below B w w1) (hB : w.heap.size ≤ B) (h : RowV w g o xs) : RowV w1 g o xs := fun k u hu => by
  have h0 := h k u hu
  exact (b.cell (Nat.lt_of_lt_of_le (block_lt_of_cell h0) hB)).trans h0
/-- pieces, one behind the other: a slice of slices of bytes -/
structure Pcs (w : World) (q : Option Addr) (l : List RC) : Prop where
  row : l = [] ∨ ∃ g o, q = some ⟨g, o, none⟩ ∧ RowV w g o (l.map RC.v)
  each : ∀ r ∈ l, Lies w r.a r.b ∧ (r.a = none → r.c = 0)
theorem Pcs.keep {w w1 : World} {q : Option Addr} {l : List RC} (h : Pcs w q l) (b : Below w.heap.size w w1) : Pcs w1 q l := by
  refine ⟨?_, fun r hr => ⟨(h.each r hr).1.keep b (Nat.le_refl _), (h.each r hr).2⟩⟩
  rcases h.row with h0 | ⟨g, o, e, hr⟩
  · exact .inl h0
  · exact .inr ⟨g, o, e, hr.keep b (Nat.le_refl _)⟩
def sumL (l : List (List UInt8)) : Nat := (l.map List.length).sum
/-- the checkpoint's file -/
def encB (n : Nat) (ps : List (List UInt8)) : List UInt8 := Crc.frame (num8 n ++ num8 ps.length) ++ ps.flatMap Crc.frame
def encT (n k : Nat) (ps : List (List UInt8)) : List UInt8 := Crc.frame (num8 n ++ num8 k) ++ ps.flatMap Crc.frame
theorem encT_snoc (n m : Nat) (l : List (List UInt8)) (k : Nat) (r : List UInt8) (h : l[k]? = some r) : encT n m (l.take (k + 1)) = encT n m (l.take k) ++ Crc.frame r := by
  obtain ⟨hk, rfl⟩ := List.getElem?_eq_some_iff.1 h
  unfold encT
  rw [List.take_succ_eq_append_getElem hk, List.flatMap_append, List.append_assoc]
  simp
theorem flat_len : ∀ ps : List (List UInt8), (ps.flatMap Crc.frame).length = sumL ps + 8 * ps.length
  | [] => rfl
  | p :: ps => by
    have ih := flat_len ps
    unfold sumL at ih ⊢
    simp only [List.flatMap_cons, List.length_append, Crc.frame_length, ih, List.map_cons, List.sum_cons, List.length_cons]
    omega
theorem encT_len (n k : Nat) (ps : List (List UInt8)) : (encT n k ps).length = 24 + sumL ps + 8 * ps.length := by
  unfold encT
  rw [List.length_append, flat_len, Crc.frame_length]
  simp [num8]
  omega
theorem sum_take (l : List (List UInt8)) (k : Nat) : sumL (l.take k) ≤ sumL l := by
  conv => rhs; rw [← List.take_append_drop k l]
  unfold sumL
  rw [List.map_append, List.sum_append]
  omega
end Go.Proofs.Ytoiopplhphllhaa
